/-
  The document's Write, Link and Clear.
-/
import Derived.Test.YtmboibipabkhaaaGreatKxK0
import Derived.Test.YtmboibipabkhaaaGreatKxR9
namespace Go.Proofs.YtmboibipabkhaaaGreat
open Go.ChangeShapes Go.WideShapes Go.ChangeAt Go.RowKit
set_option linter.unusedVariables false
set_option maxRecDepth 20000
theorem Box3.set3o {w : World} {g g' : Nat} {v0 v1 v2 : Value} (h : Box3 w g v0 v1 v2) (hne : g ≠ g') (u0 u1 u2 : Value) : Box3 (((w.setCell ⟨g', 0, none⟩ u0).setCell ⟨g', 1, none⟩ u1).setCell ⟨g', 2, none⟩ u2) g v0 v1 v2 :=
 h.kept (kept_set3 w g' u0 u1 u2) hne
set_option maxHeartbeats 8000000 in
theorem rwrite8_no (w : World) (P : Nat) (A : Option Addr) (n c T : Nat) (x p k : Int) (o m : Nat) (er : Nat) (R B : Bool) (hR : R = M.right p k) (hB : B = pin P x) (he : er = if R = true then 3 else 1) (hno : (R && B) = false) :
  Calls Tryz.prog 32 #[refV P A n c T, .int .i64 x, hv p k o m] w fun r w' => r = .returned (.tuple #[refV P A n c T, .int .i64 (er : Int)]) ∧ Below w.heap.size w w' := by
 have HX := Lib.hid (And.intro hR hB)
 have M1 := Lib.hid (wr_made w (.int .i64 (P : Int)) (.slice A n c) (.int .i64 (T : Int)) (.int .i64 p) (.int .i64 k) (.int .u64 (o : Int)) (.int .u64 (m : Int)))
 clear hR hB
 go_enter Tryz.func32, Tryz.ntmps32
 go_wp2_with fail
 refine (rright8_any p k o m _).mono ?_
 rintro e w1 ⟨rfl, b1⟩
 rw [← HX.out.1]
 have x3 := M1.out.1.below b1
 have x5 := M1.out.2.1.below b1
 have x6 := M1.out.2.2.1.below b1
 have bb := below_call M1.out.2.2.2 b1
 obtain ⟨g3, hg3⟩ : ∃ z, z = w.heap.size := ⟨_, rfl⟩
 obtain ⟨g5, hg5⟩ : ∃ z, z = w.heap.size + 1 := ⟨_, rfl⟩
 obtain ⟨g6, hg6⟩ : ∃ z, z = w.heap.size + 1 + 1 := ⟨_, rfl⟩
 rw [← hg6] at x6 ⊢
 rw [← hg5] at x5 ⊢
 rw [← hg3] at x3 ⊢
 have H1 := Lib.hid (And.intro x6 (And.intro x3 (And.intro bb (And.intro hg3 (And.intro hg5 hg6)))))
 have X5 := Lib.hid x5
 have hne1 : g3 < g5 := by omega
 have hne2 : g5 < g6 := by omega
 have a0 := x3.c0
 have a1 := x3.c1
 have a2 := x3.c2
 have d0 := x6.c0
 have d1 := x6.c1
 have d2 := x6.c2
 have df := x6.fz
 clear x3 x5 x6 b1 bb hg3 hg5 hg6 M1
 cases R with
 | false =>
  subst he
  go_wp2_with fail
  have ts := H1.out.1.set (.int .i64 (P : Int)) (.slice A n c) (.int .i64 (T : Int))
  refine bodyPost_ret (v := .tuple #[refV P A n c T, .int .i64 1]) ?_ rfl ?_
  ·simp [results, go_sem, ts.c0, ts.c1, ts.c2]
  ·exact ⟨rfl, below_set3 H1.out.2.2.1 (by have := H1.out.2.2.2; omega) _ _ _⟩
 | true =>
  have eB : B = false := by simpa using hno
  subst eB
  subst he
  clear hno
  go_wp2_with fail
  refine (rin8_any _ P A n c T x).mono ?_
  rintro e w2 ⟨rfl, b2⟩
  rw [← HX.out.2]
  have x6 := H1.out.1.below b2
  have y3 := H1.out.2.1.below b2
  have H2 := Lib.hid (And.intro x6 (below_call H1.out.2.2.1 b2))
  clear a0 a1 a2 d0 d1 d2 df
  have a0 := y3.c0
  have a1 := y3.c1
  have a2 := y3.c2
  have d0 := x6.c0
  have d1 := x6.c1
  have d2 := x6.c2
  have df := x6.fz
  clear x6 y3 b2
  go_wp2_with fail
  have ts := H2.out.1.set (.int .i64 (P : Int)) (.slice A n c) (.int .i64 (T : Int))
  refine bodyPost_ret (v := .tuple #[refV P A n c T, .int .i64 3]) ?_ rfl ?_
  ·simp [results, go_sem, ts.c0, ts.c1, ts.c2]
  ·exact ⟨rfl, below_set3 H2.out.2 (by have := H1.out.2.2.2; omega) _ _ _⟩
set_option maxHeartbeats 20000000 in
theorem rwrite8_go (w : World) (P : Nat) (A : Option Addr) (n c T : Nat) (l : List M.Ent) (hlg : LogAt w A l) (xa qi : Int) (a p k o m : Nat) (ha : a < P) (hP : P ≤ 1048576) (exa : xa = a) (hq : qi = (a * 4096 : Nat)) (hr : M.right (p : Nat) (k : Nat) = true) (ho : o < 18446744073709551616) (hm : m < 18446744073709551616) (tk err : Nat) (f' : Nat → UInt8)
  (hst : ∀ w1, Below w.heap.size w w1 → Calls Tryz.prog 55 #[refV P A n c T, .int .u64 qi, .string ⟨(M.hd p k o m).toArray⟩] w1 (DocSt w1 P A c T l tk err f')) :
  Calls Tryz.prog 32 #[refV P A n c T, .int .i64 xa, hv p k o m] w (DocSt w P A c T l tk err f') := by
 have hpk := (M.right_iff _ _).1 hr
 have RB := Lib.hid (fun W => rbytes8_int (p : Int) (k : Int) p k o m rfl rfl (by omega) (by omega) ho hm W)
 have HX := Lib.hid (And.intro hr (And.intro (pin_nat ha) (And.intro hst hlg)))
 have M1 := Lib.hid (wr_made w (.int .i64 (P : Int)) (.slice A n c) (.int .i64 (T : Int)) (.int .i64 (p : Int)) (.int .i64 (k : Int)) (.int .u64 (o : Int)) (.int .u64 (m : Int)))
 have hwa : IntKind.u64.wrap xa = xa := by rw [wrapU]; omega
 have hwq : IntKind.u64.wrap (xa * 4096) = qi := by rw [wrapU]; omega
 have hpin : pin P xa = true := by rw [exa]; exact pin_nat ha
 have HPI := Lib.hid hpin
 clear hr hst hlg ho hm hpk hq ha hP exa hpin
 go_enter Tryz.func32, Tryz.ntmps32
 go_wp2_with fail
 refine (rright8_any p k o m _).mono ?_
 rintro e w1 ⟨rfl, b1⟩
 rw [HX.out.1]
 have x3 := M1.out.1.below b1
 have x5 := M1.out.2.1.below b1
 have x6 := M1.out.2.2.1.below b1
 have bb := below_call M1.out.2.2.2 b1
 obtain ⟨g3, hg3⟩ : ∃ z, z = w.heap.size := ⟨_, rfl⟩
 obtain ⟨g5, hg5⟩ : ∃ z, z = w.heap.size + 1 := ⟨_, rfl⟩
 obtain ⟨g6, hg6⟩ : ∃ z, z = w.heap.size + 1 + 1 := ⟨_, rfl⟩
 rw [← hg6] at x6 ⊢
 rw [← hg5] at x5 ⊢
 rw [← hg3] at x3 ⊢
 have H1 := Lib.hid (And.intro x6 (And.intro x3 (And.intro bb (And.intro hg3 (And.intro hg5 hg6)))))
 have X5 := Lib.hid x5
 have hne1 : g3 < g5 := by omega
 have hne2 : g5 < g6 := by omega
 have a0 := x3.c0
 have a1 := x3.c1
 have a2 := x3.c2
 have d0 := x6.c0
 have d1 := x6.c1
 have d2 := x6.c2
 have df := x6.fz
 clear x3 x5 x6 b1 bb hg3 hg5 hg6 M1
 go_wp2_with fail
 refine (rin8_any _ P A n c T xa).mono ?_
 rintro e w2 ⟨rfl, b2⟩
 rw [HPI.out]
 have H2 := Lib.hid (And.intro (H1.out.1.below b2) (And.intro (H1.out.2.1.below b2) (And.intro (X5.out.below b2) (below_call H1.out.2.2.1 b2))))
 have H3 := Lib.hid (show ∀ W, Below w2.heap.size w2 W → Box3 W g6 _ _ _ ∧ Below w.heap.size w W from fun W hW => ⟨H2.out.1.below hW, below_call H2.out.2.2.2 hW⟩)
 clear a0 a1 a2 d0 d1 d2 df b2
 have HC := Lib.hid (show ∀ W, Below w2.heap.size w2 W → (W.cell? ⟨g3, 0, none⟩ = some (.int .i64 (P : Int)) ∧ W.cell? ⟨g3, 1, none⟩ = some (.slice A n c) ∧ W.cell? ⟨g3, 2, none⟩ = some (.int .i64 (T : Int))) ∧ W.cell? ⟨g5, 0, none⟩ = some (.int .i64 (p : Int)) ∧ W.cell? ⟨g5, 1, none⟩ = some (.int .i64 (k : Int)) ∧ W.cell? ⟨g5, 2, none⟩ = some (.int .u64 (o : Int)) ∧ W.cell? ⟨g5, 3, none⟩ = some (.int .u64 (m : Int)) from
  fun W hW => ⟨⟨(H2.out.2.1.below hW).c0, (H2.out.2.1.below hW).c1, (H2.out.2.1.below hW).c2⟩, (H2.out.2.2.1.below hW).c0, (H2.out.2.2.1.below hW).c1, (H2.out.2.2.1.below hW).c2, (H2.out.2.2.1.below hW).c3⟩)
 have HC2 := Lib.hid (show ∀ W u0 u1 u2, Below w2.heap.size w2 W → ((((W.setCell ⟨g6, 0, none⟩ u0).setCell ⟨g6, 1, none⟩ u1).setCell ⟨g6, 2, none⟩ u2).cell? ⟨g3, 0, none⟩ = some (.int .i64 (P : Int)) ∧ (((W.setCell ⟨g6, 0, none⟩ u0).setCell ⟨g6, 1, none⟩ u1).setCell ⟨g6, 2, none⟩ u2).cell? ⟨g3, 1, none⟩ = some (.slice A n c) ∧ (((W.setCell ⟨g6, 0, none⟩ u0).setCell ⟨g6, 1, none⟩ u1).setCell ⟨g6, 2, none⟩ u2).cell? ⟨g3, 2, none⟩ = some (.int .i64 (T : Int))) ∧ (((W.setCell ⟨g6, 0, none⟩ u0).setCell ⟨g6, 1, none⟩ u1).setCell ⟨g6, 2, none⟩ u2).cell? ⟨g5, 0, none⟩ = some (.int .i64 (p : Int)) ∧ (((W.setCell ⟨g6, 0, none⟩ u0).setCell ⟨g6, 1, none⟩ u1).setCell ⟨g6, 2, none⟩ u2).cell? ⟨g5, 1, none⟩ = some (.int .i64 (k : Int)) ∧ (((W.setCell ⟨g6, 0, none⟩ u0).setCell ⟨g6, 1, none⟩ u1).setCell ⟨g6, 2, none⟩ u2).cell? ⟨g5, 2, none⟩ = some (.int .u64 (o : Int)) ∧ (((W.setCell ⟨g6, 0, none⟩ u0).setCell ⟨g6, 1, none⟩ u1).setCell ⟨g6, 2, none⟩ u2).cell? ⟨g5, 3, none⟩ = some (.int .u64 (m : Int)) from
  fun W u0 u1 u2 hW => by
   have k3 := (H2.out.2.1.below hW).set3o (g' := g6) (by omega) u0 u1 u2
   have k5 := (H2.out.2.2.1.below hW).set3 (g' := g6) (by omega) u0 u1 u2
   exact ⟨⟨k3.c0, k3.c1, k3.c2⟩, k5.c0, k5.c1, k5.c2, k5.c3⟩)
 have B0 := Lib.hid ((Below.refl w2.heap.size w2).drew)
 have HG := Lib.hid (show w.heap.size ≤ g6 ∧ g6 < w2.heap.size from ⟨by have := H1.out.2.2.2; omega, H2.out.1.lt⟩)
 have a0 := (HC.out w2 (Below.refl _ _)).1.1
 clear H1 H2 X5
 go_wp2_with fail
 refine wp_region_noPanic ?_
 refine wp_region_held_drew (S := fun W => (W.cell? ⟨g3, 0, none⟩ = some (.int .i64 (P : Int)) ∧ W.cell? ⟨g3, 1, none⟩ = some (.slice A n c) ∧ W.cell? ⟨g3, 2, none⟩ = some (.int .i64 (T : Int))) ∧ W.cell? ⟨g5, 0, none⟩ = some (.int .i64 (p : Int)) ∧ W.cell? ⟨g5, 1, none⟩ = some (.int .i64 (k : Int)) ∧ W.cell? ⟨g5, 2, none⟩ = some (.int .u64 (o : Int)) ∧ W.cell? ⟨g5, 3, none⟩ = some (.int .u64 (m : Int))) (by kernel_rfl) (HC.out _ B0.out) (fun hHeld => ?_)
 refine tkA 0 (some 21) (Op.load 28 (Operand.tmp 3)) 28 (v := ?_) rfl (by kernel_rfl) ?_ ‹_› ?_
 rotate_left
 ·(intro w h; (try dsimp only at h); go_simp) <;> with_reducible rfl
 (try simp only [Act.put, yI, yZ, yS])
 refine tkA 1 (some 22) (Op.move (Operand.tmp 1)) 3 (v := ?_) rfl (by kernel_rfl) ?_ ‹_› ?_
 rotate_left
 ·(intro w h; (try dsimp only at h); go_simp) <;> with_reducible rfl
 (try simp only [Act.put, yI, yZ, yS])
 refine tkA 2 (some 23) (Op.convert 3 37 (Operand.tmp 22)) 37 (v := ?_) rfl (by kernel_rfl) ?_ ‹_› ?_
 rotate_left
 ·(intro w h; (try dsimp only at h); go_simp) <;> with_reducible rfl
 (try simp only [Act.put, yI, yZ, yS])
 refine tkA 3 (some 24) (Op.binOp BinOp.mul 37 (Operand.tmp 23) (Operand.const (Value.int IntKind.u64 4096)) 37) 37 (v := ?_) rfl (by kernel_rfl) ?_ ‹_› ?_
 rotate_left
 ·(intro w h; (try dsimp only at h); go_simp) <;> with_reducible rfl
 (try simp only [Act.put, yI, yZ, yS])
 refine tkA 4 (some 25) (Op.load 82 (Operand.tmp 5)) 82 (v := ?_) rfl (by kernel_rfl) ?_ ‹_› ?_
 rotate_left
 ·(intro w h; (try dsimp only at h); go_simp) <;> with_reducible rfl
 (try simp only [Act.put, yI, yZ, yS])
 refine rdA (rs := [5]) (by kernel_rfl) ?_ rfl
 refine rcA (some 26) (Op.call { callee := Callee.value (Operand.func 56), args := #[Operand.tmp 25], argTypes := #[82] }) 9 rfl (by kernel_rfl) (fun K hK => ?_) AllReadyH.nil
 go_simp
 refine (RB.out _).mono ?_
 rintro e y1 ⟨rfl, q1⟩
 have B1 := Lib.hid (below_call B0.out q1)
 clear q1
 go_wp2_with fail
 refine hK.out _ _ ?_ (fun hHeld => ?_)
 ·exact HC.out _ B1.out
 clear hK K
 (try simp only [Act.put, yI, yZ, yS])
 refine rdA (rs := [6]) (by kernel_rfl) ?_ rfl
 refine rcA (some 27) (Op.call { callee := Callee.value (Operand.func 55), args := #[Operand.tmp 21, Operand.tmp 24, Operand.tmp 26], argTypes := #[28, 37, 9] }) 80 rfl (by kernel_rfl) (fun K hK => ?_) AllReadyH.nil
 go_simp
 refine (HX.out.2.2.1 y1 (H3.out _ B1.out).2).mono ?_
 rintro e y2 ⟨l', A', c', n', T2, hT2, rfl, hn2, hlog, hfr, q2, hrest⟩
 have B2 := Lib.hid (below_call B1.out q2)
 have z6 := (H3.out _ B2.out).1
 have d0 := z6.c0
 have d1 := z6.c1
 have d2 := z6.c2
 have df := z6.fz
 have PP := Lib.hid (And.intro (fun v0 v1 v2 => sto_end (v0 := v0) (v1 := v1) (v2 := v2) HX.out.2.2.2 (H3.out _ B1.out).2 HG.out.1 (Nat.lt_of_lt_of_le HG.out.2 B1.out.size) q2 hlog hfr) (And.intro hT2 (And.intro hn2 hrest)))
 have Z6 := Lib.hid z6
 clear hT2 hn2 hlog hfr q2 hrest z6
 go_wp2_with fail
 refine hK.out _ _ ?_ (fun hHeld => ?_)
 ·exact HC.out _ B2.out
 clear hK K
 (try simp only [Act.put, yI, yZ, yS])
 refine tkA 7 (some 28) (Op.extract (Operand.tmp 27) 0) 28 (v := ?_) rfl (by kernel_rfl) ?_ ‹_› ?_
 rotate_left
 ·(intro w h; (try dsimp only at h); go_simp) <;> with_reducible rfl
 (try simp only [Act.put, yI, yZ, yS])
 refine tkA 8 (some 29) (Op.extract (Operand.tmp 27) 1) 40 (v := ?_) rfl (by kernel_rfl) ?_ ‹_› ?_
 rotate_left
 ·(intro w h; (try dsimp only at h); go_simp) <;> with_reducible rfl
 (try simp only [Act.put, yI, yZ, yS])
 refine rdA (rs := [9]) (by kernel_rfl) ?_ rfl
 refine rcA none (Op.store 28 (Operand.tmp 6) (Operand.tmp 28)) 0 rfl (by kernel_rfl) (fun K hK => ?_) AllReadyH.nil
 go_simp
 refine hK.out _ _ ?_ (fun hHeld => ?_)
 ·exact HC2.out _ _ _ _ B2.out
 clear hK K
 (try simp only [Act.put, yI, yZ, yS])
 refine tkA 10 (some 7) (Op.assign (Operand.tmp 29)) 40 (v := ?_) rfl (by kernel_rfl) ?_ ‹_› ?_
 rotate_left
 ·(intro w h; (try dsimp only at h); go_simp) <;> with_reducible rfl
 (try simp only [Act.put, yI, yZ, yS])
 refine wpAnyH_done (by kernel_rfl) ?_ _
 refine NoPanic.normal ?_
 go_wp2_with fail
 have ts := Z6.out.set (.int .i64 (P : Int)) (.slice A' n' c') (.int .i64 (T2 : Int))
 refine bodyPost_ret (v := .tuple #[refV P A' n' c' T2, .int .i64 (err : Int)]) ?_ rfl ?_
 ·simp [results, go_sem, ts.c0, ts.c1, ts.c2]
 ·have pp := PP.out.1 (.int .i64 (P : Int)) (.slice A' n' c') (.int .i64 (T2 : Int))
  exact ⟨l', A', c', n', T2, PP.out.2.1, rfl, PP.out.2.2.1, pp.1, pp.2.1, pp.2.2, PP.out.2.2.2⟩
end Go.Proofs.YtmboibipabkhaaaGreat
