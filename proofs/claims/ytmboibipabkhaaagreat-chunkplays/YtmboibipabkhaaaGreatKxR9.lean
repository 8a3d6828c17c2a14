/-
  The document's Read, Write, Link and Clear.
-/
import Derived.Test.YtmboibipabkhaaaGreatKxR8
import Derived.Deep.DeepCutAuto
namespace Go.Proofs.YtmboibipabkhaaaGreat
open Go.ChangeShapes Go.WideShapes Go.ChangeAt Go.RowKit
set_option linter.unusedVariables false
set_option maxRecDepth 20000
def DocSt (w : World) (P : Nat) (A : Option Addr) (c T : Nat) (l : List M.Ent) (tk err : Nat) (f' : Nat → UInt8) (r : Ending) (w' : World) : Prop :=
 ∃ l' A' c' n' T', T' = T + tk ∧ r = .returned (.tuple #[refV P A' n' c' T', .int .i64 (err : Nat)]) ∧ n' = l'.length ∧ LogAt w' A' l' ∧ Fresh w w' A A' c c' l l' ∧ Below w.heap.size w w' ∧ M.byteAt l' = f' ∧ l'.length ≤ l.length + 1 ∧ (∀ e ∈ l', EntOk e)
theorem log_low {w : World} {A : Option Addr} {l : List M.Ent} (h : LogAt w A l) (h0 : 0 < (logCells l).length) (ad : Addr) (e : A = some ad) : ad.block < w.heap.size := by
 obtain ⟨ad', e', hc⟩ := h h0
 have hh := lt_of_cell (hc 0 h0)
 rw [block_of_add] at hh
 rw [e] at e'
 injection e' with e'
 rw [e']
 exact hh
theorem sto_end {w w1 w5 : World} {b2 : Nat} {A A' : Option Addr} {c c' : Nat} {l l' : List M.Ent} (hl : LogAt w A l) (hb : Below w.heap.size w w1) (h2 : w.heap.size ≤ b2) (h3 : b2 < w1.heap.size) (b5 : Below w1.heap.size w1 w5) (hlog : LogAt w5 A' l') (hf : Fresh w1 w5 A A' c c' l l') (v0 v1 v2 : Value) :
  LogAt (((w5.setCell ⟨b2, 0, none⟩ v0).setCell ⟨b2, 1, none⟩ v1).setCell ⟨b2, 2, none⟩ v2) A' l' ∧ Fresh w (((w5.setCell ⟨b2, 0, none⟩ v0).setCell ⟨b2, 1, none⟩ v1).setCell ⟨b2, 2, none⟩ v2) A A' c c' l l' ∧ Below w.heap.size w (((w5.setCell ⟨b2, 0, none⟩ v0).setCell ⟨b2, 1, none⟩ v1).setCell ⟨b2, 2, none⟩ v2) := by
 have kk := (((Kept.refl w5 (fun b => b = b2)).setCell (p := ⟨b2, 0, none⟩) (fun _ => rfl) v0).setCell (p := ⟨b2, 1, none⟩) (fun _ => rfl) v1).setCell (p := ⟨b2, 2, none⟩) (fun _ => rfl) v2
 have hz := kk.size
 have hbs := hb.size
 refine ⟨kk.lies hlog (fun h0 ad e h => ?_), ?_, (((below_call hb b5).setCell (p := ⟨b2, 0, none⟩) h2 v0).setCell (p := ⟨b2, 1, none⟩) h2 v1).setCell (p := ⟨b2, 2, none⟩) h2 v2⟩
 ·have h : ad.block = b2 := h
  rcases hf with ⟨rfl, rfl, rfl⟩ | ⟨g, rfl, hg1, hg2, _⟩
  ·have := log_low hl h0 ad e
   omega
  ·injection e with e
   rw [← e] at h
   have h : g = b2 := h
   omega
 ·rcases hf with h | ⟨g, h1, hg1, hg2, h4⟩
  ·exact Or.inl h
  ·exact Or.inr ⟨g, h1, by omega, by omega, h4⟩
section
variable (w : World) (P : Nat) (A : Option Addr) (n c T : Nat) (hP : P ≤ 1048576) (l : List M.Ent) (hn : n = l.length) (hl : LogAt w A l) (hok : ∀ e ∈ l, EntOk e) (hb : n ≤ 900) (h0 : n = 0 → A = none ∧ c = 0) (hT : T ≤ 1000000000000)
include hP hn hl hok hb h0 hT
theorem docSto_ok (a k : Nat) (xs : List UInt8) (hxs : xs.length = k) (ha : a < 18446744073709551616) (hk : k ≤ 1048576) (hin : M.inB a k (P * 4096) = true) :
  Calls Tryz.prog 55 #[refV P A n c T, .int .u64 a, .string ⟨xs.toArray⟩] w (DocSt w P A c T l (M.touched a k) 0 (M.wr (M.byteAt l) a xs)) := by
 have ht := touch_le hin hP
 refine (rstore_ok w P A n c T hP l hn hl hok hb h0 a k xs hxs ha (by omega) _ rfl hk hin (by omega)).mono ?_
 rintro e w' ⟨g, c', rfl, h2, h3, h4, b⟩
 refine ⟨_, _, c', n + 1, _, rfl, rfl, by simp [hn], h2, Or.inr ⟨g, rfl, h3, h4, by simp⟩, b, ?_, by simp, fun e he => ?_⟩
 ·have := M.byteAt_store l a xs
  rw [hxs] at this
  exact this
 ·rcases List.mem_append.1 he with h | h
  ·exact hok e h
  ·simp at h
   subst h
   exact ⟨ha, by show k < _; omega, fun _ => hxs, by show xs.length ≤ _; omega⟩
end
abbrev S3 (v0 v1 v2 : Value) : Obj := .cells #[v0, v1, v2] 28
abbrev H4 (v0 v1 v2 v3 : Value) : Obj := .cells #[v0, v1, v2, v3] 82
theorem size1 (w : World) (o : Obj) : (w.alloc o).heap.size = w.heap.size + 1 := by simp
theorem rd_made (w : World) (v0 v1 v2 : Value) :
  Box3 (((w.alloc (S3 v0 v1 v2)).alloc (S3 (.int .i64 0) (.slice none 0 0) (.int .i64 0))).alloc (H4 (.int .i64 0) (.int .i64 0) (.int .u64 0) (.int .u64 0))) w.heap.size v0 v1 v2 ∧
  Box3 (((w.alloc (S3 v0 v1 v2)).alloc (S3 (.int .i64 0) (.slice none 0 0) (.int .i64 0))).alloc (H4 (.int .i64 0) (.int .i64 0) (.int .u64 0) (.int .u64 0))) (w.heap.size + 1) (.int .i64 0) (.slice none 0 0) (.int .i64 0) ∧
  Box4 (((w.alloc (S3 v0 v1 v2)).alloc (S3 (.int .i64 0) (.slice none 0 0) (.int .i64 0))).alloc (H4 (.int .i64 0) (.int .i64 0) (.int .u64 0) (.int .u64 0))) (w.heap.size + 1 + 1) (.int .i64 0) (.int .i64 0) (.int .u64 0) (.int .u64 0) ∧
  Below w.heap.size w (((w.alloc (S3 v0 v1 v2)).alloc (S3 (.int .i64 0) (.slice none 0 0) (.int .i64 0))).alloc (H4 (.int .i64 0) (.int .i64 0) (.int .u64 0) (.int .u64 0))) := by
 have b1 := below_new w (S3 v0 v1 v2)
 have b2 := below_new (w.alloc (S3 v0 v1 v2)) (S3 (.int .i64 0) (.slice none 0 0) (.int .i64 0))
 have b3 := below_new ((w.alloc (S3 v0 v1 v2)).alloc (S3 (.int .i64 0) (.slice none 0 0) (.int .i64 0))) (H4 (.int .i64 0) (.int .i64 0) (.int .u64 0) (.int .u64 0))
 have x2 := Box3.new (w.alloc (S3 v0 v1 v2)) 28 (.int .i64 0) (.slice none 0 0) (.int .i64 0)
 have x3 := Box4.new ((w.alloc (S3 v0 v1 v2)).alloc (S3 (.int .i64 0) (.slice none 0 0) (.int .i64 0))) 82 (.int .i64 0) (.int .i64 0) (.int .u64 0) (.int .u64 0)
 rw [size1] at x2
 rw [size1, size1] at x3
 exact ⟨((Box3.new w 28 v0 v1 v2).below b2).below b3, x2.below b3, x3, below_call (below_call b1 b2) b3⟩
theorem wr_made (w : World) (v0 v1 v2 u0 u1 u2 u3 : Value) :
  Box3 (((w.alloc (S3 v0 v1 v2)).alloc (H4 u0 u1 u2 u3)).alloc (S3 (.int .i64 0) (.slice none 0 0) (.int .i64 0))) w.heap.size v0 v1 v2 ∧
  Box4 (((w.alloc (S3 v0 v1 v2)).alloc (H4 u0 u1 u2 u3)).alloc (S3 (.int .i64 0) (.slice none 0 0) (.int .i64 0))) (w.heap.size + 1) u0 u1 u2 u3 ∧
  Box3 (((w.alloc (S3 v0 v1 v2)).alloc (H4 u0 u1 u2 u3)).alloc (S3 (.int .i64 0) (.slice none 0 0) (.int .i64 0))) (w.heap.size + 1 + 1) (.int .i64 0) (.slice none 0 0) (.int .i64 0) ∧
  Below w.heap.size w (((w.alloc (S3 v0 v1 v2)).alloc (H4 u0 u1 u2 u3)).alloc (S3 (.int .i64 0) (.slice none 0 0) (.int .i64 0))) := by
 have b1 := below_new w (S3 v0 v1 v2)
 have b2 := below_new (w.alloc (S3 v0 v1 v2)) (H4 u0 u1 u2 u3)
 have b3 := below_new ((w.alloc (S3 v0 v1 v2)).alloc (H4 u0 u1 u2 u3)) (S3 (.int .i64 0) (.slice none 0 0) (.int .i64 0))
 have x2 := Box4.new (w.alloc (S3 v0 v1 v2)) 82 u0 u1 u2 u3
 have x3 := Box3.new ((w.alloc (S3 v0 v1 v2)).alloc (H4 u0 u1 u2 u3)) 28 (.int .i64 0) (.slice none 0 0) (.int .i64 0)
 rw [size1] at x2
 rw [size1, size1] at x3
 exact ⟨((Box3.new w 28 v0 v1 v2).below b2).below b3, x2.below b3, x3, below_call (below_call b1 b2) b3⟩
theorem lk_made (w : World) (v0 v1 v2 : Value) :
  Box3 ((w.alloc (S3 v0 v1 v2)).alloc (S3 (.int .i64 0) (.slice none 0 0) (.int .i64 0))) w.heap.size v0 v1 v2 ∧
  Box3 ((w.alloc (S3 v0 v1 v2)).alloc (S3 (.int .i64 0) (.slice none 0 0) (.int .i64 0))) (w.heap.size + 1) (.int .i64 0) (.slice none 0 0) (.int .i64 0) ∧
  Below w.heap.size w ((w.alloc (S3 v0 v1 v2)).alloc (S3 (.int .i64 0) (.slice none 0 0) (.int .i64 0))) := by
 have b1 := below_new w (S3 v0 v1 v2)
 have b2 := below_new (w.alloc (S3 v0 v1 v2)) (S3 (.int .i64 0) (.slice none 0 0) (.int .i64 0))
 have x2 := Box3.new (w.alloc (S3 v0 v1 v2)) 28 (.int .i64 0) (.slice none 0 0) (.int .i64 0)
 rw [size1] at x2
 exact ⟨(Box3.new w 28 v0 v1 v2).below b2, x2, below_call b1 b2⟩
theorem Box4.set3 {w : World} {g g' : Nat} {v0 v1 v2 v3 : Value} (h : Box4 w g v0 v1 v2 v3) (hne : g ≠ g') (u0 u1 u2 : Value) : Box4 (((w.setCell ⟨g', 0, none⟩ u0).setCell ⟨g', 1, none⟩ u1).setCell ⟨g', 2, none⟩ u2) g v0 v1 v2 v3 :=
 h.kept (kept_set3 w g' u0 u1 u2) hne
theorem Box3.set4 {w : World} {g g' : Nat} {v0 v1 v2 : Value} (h : Box3 w g v0 v1 v2) (hne : g ≠ g') (u0 u1 u2 u3 : Value) : Box3 ((((w.setCell ⟨g', 0, none⟩ u0).setCell ⟨g', 1, none⟩ u1).setCell ⟨g', 2, none⟩ u2).setCell ⟨g', 3, none⟩ u3) g v0 v1 v2 :=
 h.kept (kept_set4 w g' u0 u1 u2 u3) hne
set_option maxHeartbeats 8000000 in
theorem rread8_out (w : World) (P : Nat) (A : Option Addr) (n c T : Nat) (x : Int) (hx : pin P x = false) :
  Calls Tryz.prog 38 #[refV P A n c T, .int .i64 x] w fun r w' => r = .returned (.tuple #[refV P A n c T, hv 0 0 0 0, .int .i64 3]) ∧ Below w.heap.size w w' := by
 have HX := Lib.hid hx
 have M1 := Lib.hid (rd_made w (.int .i64 (P : Int)) (.slice A n c) (.int .i64 (T : Int)))
 clear hx
 go_enter Tryz.func38, Tryz.ntmps38
 go_wp2_with fail
 refine (rin8_any _ P A n c T x).mono ?_
 rintro e w1 ⟨rfl, b1⟩
 rw [HX.out]
 have x2 := M1.out.1.below b1
 have x4 := M1.out.2.1.below b1
 have x5 := M1.out.2.2.1.below b1
 have bb := below_call M1.out.2.2.2 b1
 obtain ⟨g2, hg2⟩ : ∃ z, z = w.heap.size := ⟨_, rfl⟩
 obtain ⟨g4, hg4⟩ : ∃ z, z = w.heap.size + 1 := ⟨_, rfl⟩
 obtain ⟨g5, hg5⟩ : ∃ z, z = w.heap.size + 1 + 1 := ⟨_, rfl⟩
 rw [← hg5] at x5 ⊢
 rw [← hg4] at x4 ⊢
 rw [← hg2] at x2 ⊢
 have H1 := Lib.hid (And.intro x4 (And.intro x5 (And.intro bb (And.intro hg2 (And.intro hg4 hg5)))))
 have hne1 : g2 < g4 := by omega
 have hne2 : g4 < g5 := by omega
 have a0 := x2.c0
 have a1 := x2.c1
 have a2 := x2.c2
 have d0 := x4.c0
 have d1 := x4.c1
 have d2 := x4.c2
 have df := x4.fz
 have e0 := x5.c0
 have e1 := x5.c1
 have e2 := x5.c2
 have e3 := x5.c3
 have ef := x5.fz
 clear x2 x4 x5 b1 bb hg2 hg4 hg5 M1
 go_wp2_with fail
 have ts := (H1.out.1.set (.int .i64 (P : Int)) (.slice A n c) (.int .i64 (T : Int))).set4 (g' := g5) (by omega) (.int .i64 0) (.int .i64 0) (.int .u64 0) (.int .u64 0)
 have us := (H1.out.2.1.set3 (g' := g4) (by omega) (.int .i64 (P : Int)) (.slice A n c) (.int .i64 (T : Int))).set (.int .i64 0) (.int .i64 0) (.int .u64 0) (.int .u64 0)
 refine bodyPost_ret (v := .tuple #[refV P A n c T, hv 0 0 0 0, .int .i64 3]) ?_ rfl ?_
 ·simp [results, go_sem, ts.c0, ts.c1, ts.c2, us.c0, us.c1, us.c2, us.c3]
 ·exact ⟨rfl, below_set4 (below_set3 H1.out.2.2.1 (by have := H1.out.2.2.2; omega) _ _ _) (by have := H1.out.2.2.2; omega) _ _ _ _⟩
set_option maxHeartbeats 20000000 in
theorem rread8_in (w : World) (P : Nat) (A : Option Addr) (n c T T' : Nat) (a q : Nat) (ha : a < P) (hq : q = a * 4096) (hP : P ≤ 1048576) (b : List UInt8) (hb : b.length = 32) (R : Bool) (p k o m : Nat) (hR : R = M.isH b) (hV' : hV b = hv p k o m)
  (hld : ∀ w1, Below w.heap.size w w1 → Calls Tryz.prog 65 #[refV P A n c T, .int .u64 (q : Int), .int .u64 32] w1 fun r w' => r = .returned (.tuple #[refV P A n c T', .string ⟨b.toArray⟩, .int .i64 0]) ∧ Below w1.heap.size w1 w') :
  Calls Tryz.prog 38 #[refV P A n c T, .int .i64 (a : Int)] w fun r w' => r = .returned (.tuple #[refV P A n c T', if R = true then hv p k o m else hv 0 0 0 0, .int .i64 (if R = true then 0 else 5)]) ∧ Below w.heap.size w w' := by
 have HX := Lib.hid (And.intro (pin_nat ha) (And.intro hR (And.intro hV' (And.intro hld hb))))
 have M1 := Lib.hid (rd_made w (.int .i64 (P : Int)) (.slice A n c) (.int .i64 (T : Int)))
 have hq2 : (a : Int) * 4096 = (q : Int) := by omega
 have ha2 : a < 1048576 := by omega
 clear hR hV' hld hb hq ha hP
 go_enter Tryz.func38, Tryz.ntmps38
 go_wp2_with fail
 refine (rin8_any _ P A n c T a).mono ?_
 rintro e w1 ⟨rfl, b1⟩
 rw [HX.out.1]
 have x2 := M1.out.1.below b1
 have x4 := M1.out.2.1.below b1
 have x5 := M1.out.2.2.1.below b1
 have bb := below_call M1.out.2.2.2 b1
 obtain ⟨g2, hg2⟩ : ∃ z, z = w.heap.size := ⟨_, rfl⟩
 obtain ⟨g4, hg4⟩ : ∃ z, z = w.heap.size + 1 := ⟨_, rfl⟩
 obtain ⟨g5, hg5⟩ : ∃ z, z = w.heap.size + 1 + 1 := ⟨_, rfl⟩
 rw [← hg5] at x5 ⊢
 rw [← hg4] at x4 ⊢
 rw [← hg2] at x2 ⊢
 have H1 := Lib.hid (And.intro x4 (And.intro x5 (And.intro bb (And.intro hg2 (And.intro hg4 hg5)))))
 have hne2 : g4 < g5 := by omega
 have a0 := x2.c0
 have a1 := x2.c1
 have a2 := x2.c2
 clear x2 x4 x5 b1 bb hg2 hg4 hg5 M1
 go_wp2_with fail
 refine (HX.out.2.2.2.1 w1 H1.out.2.2.1).mono ?_
 rintro e w2 ⟨rfl, b2⟩
 have H2 := Lib.hid (And.intro (H1.out.1.below b2) (And.intro (H1.out.2.1.below b2) (below_call H1.out.2.2.1 b2)))
 have h5lt : g5 < w2.heap.size := (H1.out.2.1.below b2).lt
 clear b2 a0 a1 a2
 go_upto_region 5 with fail
 have x8 := Box3.new w2 28 (.int .i64 (P : Int)) (.slice A n c) (.int .i64 (T' : Int))
 have b3 := below_new w2 (S3 (.int .i64 (P : Int)) (.slice A n c) (.int .i64 (T' : Int)))
 have H3 := Lib.hid (And.intro (H2.out.1.below b3) (And.intro (H2.out.2.1.below b3) (And.intro (below_call H2.out.2.2 b3) x8)))
 clear x8 b3
 generalize w2.alloc (.cells #[.int .i64 (P : Int), .slice A n c, .int .i64 (T' : Int)] 28) = w3 at *
 generalize w2.heap.size = g8 at *
 go_wp2_with fail
 refine (rof8_any b HX.out.2.2.2.2 w3).mono ?_
 rintro e w4 ⟨rfl, b4⟩
 rw [HX.out.2.2.1, ← HX.out.2.1]
 have h8lt : g8 < w4.heap.size := (H3.out.2.2.2.below b4).lt
 have H4' := Lib.hid (And.intro (H3.out.1.below b4) (And.intro (H3.out.2.1.below b4) (And.intro (below_call H3.out.2.2.1 b4) (H3.out.2.2.2.below b4))))
 clear b4 H3 H2
 go_upto_region 8 with fail
 have x11 := Box4.new w4 82 (.int .i64 (p : Int)) (.int .i64 (k : Int)) (.int .u64 (o : Int)) (.int .u64 (m : Int))
 have b5 := below_new w4 (H4 (.int .i64 (p : Int)) (.int .i64 (k : Int)) (.int .u64 (o : Int)) (.int .u64 (m : Int)))
 have x4 := H4'.out.1.below b5
 have x5 := H4'.out.2.1.below b5
 have x8 := H4'.out.2.2.2.below b5
 have H5 := Lib.hid (And.intro x4 (And.intro x5 (below_call H4'.out.2.2.1 b5)))
 generalize w4.alloc (.cells #[.int .i64 (p : Int), .int .i64 (k : Int), .int .u64 (o : Int), .int .u64 (m : Int)] 82) = w5 at *
 generalize w4.heap.size = g11 at *
 have d0 := x4.c0
 have d1 := x4.c1
 have d2 := x4.c2
 have df := x4.fz
 have e0 := x5.c0
 have e1 := x5.c1
 have e2 := x5.c2
 have e3 := x5.c3
 have ef := x5.fz
 have a0 := x8.c0
 have a1 := x8.c1
 have a2 := x8.c2
 have f0 := x11.c0
 have f1 := x11.c1
 have f2 := x11.c2
 have f3 := x11.c3
 clear x4 x5 x8 x11 b5 H4'
 cases R with
 | true =>
  go_wp2_with fail
  have ts := (H5.out.1.set (.int .i64 (P : Int)) (.slice A n c) (.int .i64 (T' : Int))).set4 (g' := g5) (by omega) (.int .i64 (p : Int)) (.int .i64 (k : Int)) (.int .u64 (o : Int)) (.int .u64 (m : Int))
  have us := (H5.out.2.1.set3 (g' := g4) (by omega) (.int .i64 (P : Int)) (.slice A n c) (.int .i64 (T' : Int))).set (.int .i64 (p : Int)) (.int .i64 (k : Int)) (.int .u64 (o : Int)) (.int .u64 (m : Int))
  have TS := Lib.hid ts
  have US := Lib.hid us
  clear ts us
  go_region
  all_goals
   go_wp2_with fail
   refine bodyPost_ret (v := .tuple #[refV P A n c T', hv p k o m, .int .i64 0]) ?_ rfl ?_
   ·simp [results, go_sem, TS.out.c0, TS.out.c1, TS.out.c2, US.out.c0, US.out.c1, US.out.c2, US.out.c3]
   ·exact ⟨rfl, (below_set4 (below_set3 H5.out.2.2 (by have := H1.out.2.2.2; omega) _ _ _) (by have := H1.out.2.2.2; omega) _ _ _ _).drew⟩
 | false =>
  go_wp2_with fail
  have ts := (H5.out.1.set (.int .i64 (P : Int)) (.slice A n c) (.int .i64 (T' : Int))).set4 (g' := g5) (by omega) (.int .i64 0) (.int .i64 0) (.int .u64 0) (.int .u64 0)
  have us := (H5.out.2.1.set3 (g' := g4) (by omega) (.int .i64 (P : Int)) (.slice A n c) (.int .i64 (T' : Int))).set (.int .i64 0) (.int .i64 0) (.int .u64 0) (.int .u64 0)
  refine bodyPost_ret (v := .tuple #[refV P A n c T', hv 0 0 0 0, .int .i64 5]) ?_ rfl ?_
  ·simp [results, go_sem, ts.c0, ts.c1, ts.c2, us.c0, us.c1, us.c2, us.c3]
  ·exact ⟨rfl, below_set4 (below_set3 H5.out.2.2 (by have := H1.out.2.2.2; omega) _ _ _) (by have := H1.out.2.2.2; omega) _ _ _ _⟩
end Go.Proofs.YtmboibipabkhaaaGreat
