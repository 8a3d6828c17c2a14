/-
  A Store, by the program: its ticks; what a nil one answers.
-/
import Derived.Test.YtmboibipabkhaaaGreatKxK0
import Derived.Test.YtmboibipabkhaaaGreatKxK10
import Derived.Test.YtmboibipabkhaaaGreatKxK8
import Derived.Test.YtmboibipabkhaaaGreatKxK9
namespace Go.Proofs.YtmboibipabkhaaaGreat
open Go.ChangeShapes Go.WideShapes Go.ChangeAt Go.RowKit Go.Deep
set_option linter.unusedVariables false
set_option maxRecDepth 20000
section
variable {w0 w : World} {s a b c P : Nat} {Z : St} {Q D : Nat → Prop} {k : Nat}
theorem tick_sum (u : Nat) (T : Int) (h0 : 0 ≤ T) (h1 : T ≤ 1000000000000) (h2 : u ≤ 1000000000000) : IntKind.i64.wrap ((u : Int) + T) = (u : Int) + T := IntWalk.i64_in _ (by omega)
set_option maxHeartbeats 4000000 in
theorem cticks_any (h : Chk D w0 w s a b c P Z Q k) (hk : k ≤ 80000) (hu : Z.u ≤ 1000000000000) :
  Calls Tryz.prog 17 #[.pointer (some ⟨s, 0, none⟩)] w fun e w' => e = .returned (.int .i64 ((Z.u : Int) + Z.T)) ∧ Below w.heap.size w w' := by
 have H := Lib.hid h
 have HP := Lib.hid (parts_any h.bx)
 have ht := h.st.al.fit.t1
 have ht0 := h.st.al.fit.t0
 have HTS := Lib.hid (tick_sum Z.u Z.T ht0 (by omega) hu)
 obtain ⟨u, hu2⟩ : ∃ u : Int, u = (Z.u : Int) := ⟨_, rfl⟩
 rw [← hu2] at HTS ⊢
 have HU := Lib.hid hu2
 clear h ht ht0 hk hu hu2
 go_enter Tryz.func17, Tryz.ntmps17
 go_wp2_with fail
 refine HP.out.mono ?_
 rintro e w1 ⟨rfl, hb⟩
 obtain ⟨w2, hw2⟩ : ∃ w2, w2 = w1.alloc (.cells #[.pointer (some ⟨a, 0, none⟩), .pointer (some ⟨b, 0, none⟩), .pointer (some ⟨c, 0, none⟩)] 70) := ⟨_, rfl⟩
 have hb2 : Below w.heap.size w w2 := by rw [hw2]; exact below_call hb ((Below.refl _ _).alloc (Nat.le_refl _) _)
 have X2 : Bx3 w2 w1.heap.size (.pointer (some ⟨a, 0, none⟩)) (.pointer (some ⟨b, 0, none⟩)) (.pointer (some ⟨c, 0, none⟩)) := by rw [hw2]; exact Bx3.new _ _ _ _ _
 go_upto_region 2 with fail
 rw [← hw2]
 generalize w1.heap.size = v at *
 clear hw2
 have HS := Lib.hid (show ∀ W, Below w2.heap.size w2 W → Sto D w0 W a b c P Z Q k ∧ W.cell? ⟨v, 0, none⟩ = some (.pointer (some ⟨a, 0, none⟩)) ∧ W.cell? ⟨v, 1, none⟩ = some (.pointer (some ⟨b, 0, none⟩)) from fun W hW => ⟨(H.out.st.below hb2).below hW, (X2.below hW).c0, (X2.below hW).c1⟩)
 have HB2 := Lib.hid hb2
 clear hb hb2 X2
 refine wp_region_noPanic ?_
 refine wp_region_held_drew (S := fun W => W.cell? ⟨v, 0, none⟩ = some (.pointer (some ⟨a, 0, none⟩)) ∧ W.cell? ⟨v, 1, none⟩ = some (.pointer (some ⟨b, 0, none⟩))) (by kernel_rfl) ((HS.out _ (Below.refl _ _).drew).2) (fun hHeld => ?_)
 refine tkA 0 (some 6) (Op.fieldAddr 70 (Operand.tmp 3) 1) 0 (v := ?_) rfl (by kernel_rfl) ?_ ‹_› ?_
 rotate_left
 ·(intro w h; (try dsimp only at h); go_simp) <;> with_reducible rfl
 (try simp only [Act.put, yI, yZ, yS])
 refine tkA 1 (some 7) (Op.load 57 (Operand.tmp 6)) 57 (v := ?_) rfl (by kernel_rfl) ?_ ‹_› ?_
 rotate_left
 ·(intro w h; (try dsimp only at h); go_simp) <;> with_reducible rfl
 (try simp only [Act.put, yI, yZ, yS])
 refine tkA 3 (some 9) (Op.fieldAddr 70 (Operand.tmp 3) 0) 0 (v := ?_) rfl (by kernel_rfl) ?_ ‹_› ?_
 rotate_left
 ·(intro w h; (try dsimp only at h); go_simp) <;> with_reducible rfl
 (try simp only [Act.put, yI, yZ, yS])
 refine tkA 4 (some 10) (Op.load 64 (Operand.tmp 9)) 64 (v := ?_) rfl (by kernel_rfl) ?_ ‹_› ?_
 rotate_left
 ·(intro w h; (try dsimp only at h); go_simp) <;> with_reducible rfl
 (try simp only [Act.put, yI, yZ, yS])
 refine rdA (rs := [2]) (by kernel_rfl) ?_ rfl
 refine rcA (some 8) (Op.call { callee := Callee.value (Operand.func 48), args := #[Operand.tmp 7], argTypes := #[57] }) 3 rfl (by kernel_rfl) (fun K hK => ?_) AllReadyH.nil
 go_simp
 obtain ⟨O, hat, _⟩ := (HS.out _ ((Below.refl _ _).drew)).1.sp
 refine (ticks_at hat).mono ?_
 rintro e wf ⟨rfl, rfl⟩
 rw [← HU.out]
 clear hat
 go_wp2_with fail
 refine hK.out _ _ ?_ (fun hHeld => ?_)
 ·exact (HS.out _ ((Below.refl _ _).drew)).2
 clear hK K
 (try simp only [Act.put, yI, yZ, yS])
 refine rdA (rs := [5]) (by kernel_rfl) ?_ rfl
 refine rcA (some 11) (Op.call { callee := Callee.value (Operand.func 49), args := #[Operand.tmp 10], argTypes := #[64] }) 3 rfl (by kernel_rfl) (fun K hK => ?_) AllReadyH.nil
 go_simp
 refine (al_ticks _ a (P : Int) Z.l Z.T (HS.out _ ((Below.refl _ _).drew)).1.al.has).mono ?_
 rintro e wg ⟨rfl, hb⟩
 have HR := Lib.hid (show Below w2.heap.size w2 wg from below_call ((Below.refl _ _).drew) hb)
 clear hb
 go_wp2_with fail
 refine hK.out _ _ ?_ (fun hHeld => ?_)
 ·exact (HS.out _ HR.out).2
 clear hK K
 (try simp only [Act.put, yI, yZ, yS])
 refine tkA 6 (some 12) (Op.binOp BinOp.add 3 (Operand.tmp 8) (Operand.tmp 11) 3) 3 (v := ?_) rfl (by kernel_rfl) ?_ ‹_› ?_
 rotate_left
 ·(intro w h; (try dsimp only at h); go_simp) <;> with_reducible rfl
 (try simp only [Act.put, yI, yZ, yS])
 refine tkA 7 (some 2) (Op.assign (Operand.tmp 12)) 3 (v := ?_) rfl (by kernel_rfl) ?_ ‹_› ?_
 rotate_left
 ·(intro w h; (try dsimp only at h); go_simp) <;> with_reducible rfl
 (try simp only [Act.put, yI, yZ, yS])
 refine wpAnyH_done (by kernel_rfl) ?_ _
 refine NoPanic.normal ?_
 go_wp2_with fail
 go_ret
 rw [HTS.out]
 exact ⟨rfl, below_call HB2.out HR.out⟩
end
/-! Of nil. -/
section
variable (w : World)
theorem place_none (p : Int) : Calls Tryz.prog 62 #[.pointer none, .int .i64 p] w fun e w' => e = .returned (.tuple #[.int .u64 0, .bool false]) ∧ w = w' := by
 by_cases h0 : p < 0
 ·go_enter Tryz.func62, Tryz.ntmps62
  go_wp2_with fail
  go_ret2
  exact ⟨rfl, rfl⟩
 ·have d0 : decide (p < 0) = false := by simpa using h0
  have d1 : decide (0 ≤ p) = true := by simp; omega
  clear h0
  go_enter Tryz.func62, Tryz.ntmps62
  go_wp2_with (go_at_call 21; refine (pages_nil _).mono ?_; rintro e w' ⟨rfl, rfl⟩)
  go_ret2
  exact ⟨rfl, rfl⟩
theorem find_none (p : Int) :
  Calls Tryz.prog 51 #[.pointer none, .int .i64 p] w fun e w' => e = .returned (.tuple #[.int .u64 0, hv 0 0 0 0, .int .i64 3]) ∧ Below w.heap.size w w' := by
 have x1 := Box4.new w 61 (.int .i64 0) (.int .i64 0) (.int .u64 0) (.int .u64 0)
 have b1 := below_new w (.cells #[.int .i64 0, .int .i64 0, .int .u64 0, .int .u64 0] 61)
 go_enter Tryz.func51, Tryz.ntmps51
 go_wp2_with fail
 refine (place_none _ p).mono ?_
 rintro e w' ⟨rfl, rfl⟩
 generalize w.alloc (.cells #[.int .i64 0, .int .i64 0, .int .u64 0, .int .u64 0] 61) = w1 at *
 obtain ⟨g, hg⟩ : ∃ g, g = w.heap.size := ⟨_, rfl⟩
 rw [← hg] at x1 ⊢
 have X1 := Lib.hid (And.intro x1 (And.intro b1 hg))
 have a0 := x1.c0
 have a1 := x1.c1
 have a2 := x1.c2
 have a3 := x1.c3
 have fz := x1.fz
 clear x1 b1 hg
 go_wp2_with fail
 have ts := X1.out.1.set (.int .i64 0) (.int .i64 0) (.int .u64 0) (.int .u64 0)
 refine bodyPost_ret (v := .tuple #[.int .u64 0, hv 0 0 0 0, .int .i64 3]) ?_ rfl ?_
 ·simp [results, go_sem, ts.c0, ts.c1, ts.c2, ts.c3]
 ·exact ⟨rfl, below_set4 X1.out.2.1 (by have := X1.out.2.2; omega) _ _ _ _⟩
theorem read_none (p : Int) : Calls Tryz.prog 22 #[.pointer none, .int .i64 p] w fun e w' => e = .returned (.tuple #[hv 0 0 0 0, .int .i64 3]) ∧ Below w.heap.size w w' := by
 refine read_go _ p w 0 3 0 0 0 0 (fun w' => Below w.heap.size w w') ?_
 rintro w1 rfl
 have x1 := Box4.new w 61 (.int .i64 0) (.int .i64 0) (.int .u64 0) (.int .u64 0)
 have b1 := below_new w (.cells #[.int .i64 0, .int .i64 0, .int .u64 0, .int .u64 0] 61)
 refine (find_none _ p).mono ?_
 rintro e w2 ⟨rfl, b2⟩
 refine ⟨rfl, x1.below b2, fun o g u0 u1 u2 u3 hg => ?_⟩
 have b3 := below_call b1 b2
 exact below_set4 (b3.alloc b3.size o) (by omega) u0 u1 u2 u3
abbrev gnil : Value := .agg #[.pointer none, .pointer none, .pointer none]
set_option maxHeartbeats 4000000 in
theorem parts_none : Calls Tryz.prog 35 #[.pointer none] w fun e w' => e = .returned gnil ∧ Below w.heap.size w w' := by
 have b1 := (Below.refl w.heap.size w).alloc (Nat.le_refl _) (.cells #[.pointer none, .pointer none, .pointer none] 70)
 have V1 := Lib.hid (Bx3.new w 70 (.pointer none) (.pointer none) (.pointer none))
 have F1 : ∀ j, (w.alloc (.cells #[.pointer none, .pointer none, .pointer none] 70)).frozen? ⟨w.heap.size, j, none⟩ = false := fun j => by rw [World.frozen?_alloc_mark]; simp
 obtain ⟨w1, hw1⟩ : ∃ w1, w1 = w.alloc (.cells #[.pointer none, .pointer none, .pointer none] 70) := ⟨_, rfl⟩
 rw [← hw1] at V1 b1 F1
 have f0 := F1 0
 have f1 := F1 1
 have f2 := F1 2
 clear F1
 have B1 := Lib.hid b1
 clear b1
 go_enter Tryz.func35, Tryz.ntmps35
 go_upto_region 1 with fail
 rw [← hw1]
 have d0 := V1.out.c0
 have d1 := V1.out.c1
 have d2 := V1.out.c2
 clear hw1
 go_wp2_with fail
 have ts := V1.out.set (.pointer none) (.pointer none) (.pointer none)
 refine bodyPost_ret (v := gnil) ?_ rfl ?_
 ·simp [results, go_sem, ts.c0, ts.c1, ts.c2]
 ·exact ⟨rfl, set3_below B1.out (Nat.le_refl _) _ _ _⟩
theorem nfield0 (W : World) : (Instr.field 70 gnil 0).run Tryz.prog W = .ok (.pointer none) W := by kernel_rfl
theorem nfield1 (W : World) : (Instr.field 70 gnil 1).run Tryz.prog W = .ok (.pointer none) W := by kernel_rfl
theorem nfield2 (W : World) : (Instr.field 70 gnil 2).run Tryz.prog W = .ok (.pointer none) W := by kernel_rfl
theorem cspace_none : Calls Tryz.prog 20 #[.pointer none] w fun e w' => e = .returned (.pointer none) ∧ Below w.heap.size w w' := by
 go_enter Tryz.func20, Tryz.ntmps20
 go_wp2_with fail
 refine (parts_none w).mono ?_
 rintro e w1 ⟨rfl, hb⟩
 have HB := Lib.hid hb
 clear hb
 have hf := nfield1 w1
 go_wp2_with fail
 go_ret
 exact ⟨rfl, HB.out⟩
theorem cruns_none : Calls Tryz.prog 14 #[.pointer none] w fun e w' => e = .returned (.slice none 0 0) ∧ Below w.heap.size w w' := by
 go_enter Tryz.func14, Tryz.ntmps14
 go_wp2_with fail
 refine (parts_none w).mono ?_
 rintro e w1 ⟨rfl, hb⟩
 have HB := Lib.hid hb
 clear hb
 have hf := nfield0 w1
 go_wp2_with fail
 refine (nil_runs _).mono ?_
 rintro e w2 ⟨rfl, hb⟩
 have H2 := Lib.hid (below_call HB.out hb)
 clear hb
 go_wp2_with fail
 go_ret
 exact ⟨rfl, H2.out⟩
theorem ccached_none : Calls Tryz.prog 15 #[.pointer none] w (AllGot w []) := by
 go_enter Tryz.func15, Tryz.ntmps15
 go_wp2_with fail
 refine (parts_none w).mono ?_
 rintro e w1 ⟨rfl, hb⟩
 have HB := Lib.hid hb
 clear hb
 have hf := nfield2 w1
 go_wp2_with fail
 refine (caall_nil w1).mono ?_
 rintro e w2 ⟨g, z, rfl, h1, h2, h3, h4, h5⟩
 have H2 := Lib.hid (show _ ∧ _ ∧ _ ∧ w.heap.size ≤ g ∧ Below w.heap.size w w2 from ⟨h1, h2, h3, Nat.le_trans HB.out.size h4, below_call HB.out h5⟩)
 clear h1 h2 h3 h4 h5
 go_wp2_with fail
 go_ret
 exact ⟨g, z, rfl, H2.out⟩
set_option maxHeartbeats 4000000 in
theorem trim_none10 : Calls Tryz.prog 45 #[gnil] w fun e w' => e = .returned (.int .i64 0) ∧ Below w.heap.size w w' := by
 obtain ⟨w1, hw1⟩ : ∃ w1, w1 = w.alloc (.cells #[.pointer none, .pointer none, .pointer none] 70) := ⟨_, rfl⟩
 obtain ⟨v, hv⟩ : ∃ v, v = w.heap.size := ⟨_, rfl⟩
 have X1 := Lib.hid (show Bx3 w1 v (.pointer none) (.pointer none) (.pointer none) ∧ Below w.heap.size w w1 from by rw [hw1, hv]; exact ⟨Bx3.new _ _ _ _ _, (Below.refl _ _).alloc (Nat.le_refl _) _⟩)
 go_enter Tryz.func45, Tryz.ntmps45
 go_upto_region 1 with fail
 rw [← hw1, ← hv]
 clear hw1 hv
 have c2 := X1.out.1.c2
 go_wp2_with fail
 refine (capages_nil w1).mono ?_
 rintro e w1' ⟨rfl, rfl⟩
 go_wp2_with fail
 refine (caall_nil w1).mono ?_
 rintro e w2 ⟨g, z, rfl, hz, _, _, _, hb⟩
 have X2 := X1.out.1.below hb
 have B2 := Lib.hid (show Below w.heap.size w w2 from below_call X1.out.2 hb)
 simp only [List.length_nil] at hz
 subst hz
 clear c2 X1 hb
 have c2 := X2.c2
 clear X2
 go_wp2_with fail
 go_loopw [13] (fun i wr => i = .int .i64 0 ∧ wr = w2) (fun _ _ => 0)
 case atStart => exact ⟨rfl, rfl⟩
 case round =>
  obtain ⟨rfl, rfl⟩ := hrel
  go_wp2_with fail
  refine (caclear_nil _).mono ?_
  rintro e w5 ⟨rfl, rfl⟩
  go_wp2_with fail
  go_ret
  exact ⟨rfl, B2.out⟩
theorem ctrim_none : Calls Tryz.prog 12 #[.pointer none] w fun e w' => e = .returned (.int .i64 0) ∧ Below w.heap.size w w' := by
 go_enter Tryz.func12, Tryz.ntmps12
 go_wp2_with fail
 refine (parts_none w).mono ?_
 rintro e w1 ⟨rfl, hb⟩
 have HB := Lib.hid hb
 clear hb
 go_wp2_with fail
 refine (trim_none10 w1).mono ?_
 rintro e w2 ⟨rfl, hb⟩
 have H2 := Lib.hid (below_call HB.out hb)
 clear hb
 go_wp2_with fail
 go_ret
 exact ⟨rfl, H2.out⟩
theorem clo10_none (v t : Nat) (n : Int) (hv : w.cell? ⟨v, 0, none⟩ = some (.pointer none)) (ht : w.cell? ⟨t, 0, none⟩ = some (.int .i64 n)) :
  Calls Tryz.prog 59 #[.pointer (some ⟨v, 0, none⟩), .pointer (some ⟨t, 0, none⟩)] w fun e w' => e = .returned (.tuple #[.int .i64 0, .int .i64 1]) ∧ Below w.heap.size w w' := by
 go_enter Tryz.func59, Tryz.ntmps59
 go_wp2_with fail
 refine (nil_take _ n).mono ?_
 rintro e w1 ⟨rfl, hb⟩
 have H1 := Lib.hid hb
 clear hb hv ht
 go_wp2_with fail
 go_ret2
 exact ⟨rfl, H1.out⟩
set_option maxHeartbeats 4000000 in
theorem twice_none (v t : Nat) (n : Int) (hv : w.cell? ⟨v, 0, none⟩ = some (.pointer none)) (ht : w.cell? ⟨t, 0, none⟩ = some (.int .i64 n)) :
  Calls Tryz.prog 58 #[gnil, .func (.func 59) #[] #[.pointer (some ⟨v, 0, none⟩), .pointer (some ⟨t, 0, none⟩)]] w fun e w' => e = .returned (.tuple #[.int .i64 0, .int .i64 1]) ∧ Below w.heap.size w w' := by
 obtain ⟨w1, hw1⟩ : ∃ w1, w1 = w.alloc (.cells #[.pointer none, .pointer none, .pointer none] 70) := ⟨_, rfl⟩
 have hb : Below w.heap.size w w1 := by rw [hw1]; exact (Below.refl _ _).alloc (Nat.le_refl _) _
 have H1 := Lib.hid (show w1.cell? ⟨v, 0, none⟩ = some (.pointer none) ∧ w1.cell? ⟨t, 0, none⟩ = some (.int .i64 n) ∧ Below w.heap.size w w1 from ⟨(hb.cell (lt_of_cell hv)).trans hv, (hb.cell (lt_of_cell ht)).trans ht, hb⟩)
 clear hv ht hb
 go_enter Tryz.func58, Tryz.ntmps58
 go_upto_region 1 with fail
 rw [← hw1]
 clear hw1
 go_wp2_with fail
 refine (clo10_none w1 v t n H1.out.1 H1.out.2.1).mono ?_
 rintro e w2 ⟨rfl, hb⟩
 have H2 := Lib.hid (below_call H1.out.2.2 hb)
 clear hb
 go_wp2_with fail
 go_ret2
 exact ⟨rfl, H2.out⟩
set_option maxHeartbeats 4000000 in
theorem gfind_none (d n : Int) : Calls Tryz.prog 36 #[gnil, .int .i64 d, .int .i64 n] w fun e w' => e = .returned (.tuple #[.int .i64 0, .int .i64 1]) ∧ Below w.heap.size w w' := by
 obtain ⟨w1, hw1⟩ : ∃ w1, w1 = (w.alloc (.cells #[.pointer none, .pointer none, .pointer none] 70)).alloc (.cells #[.int .i64 n] 3) := ⟨_, rfl⟩
 obtain ⟨v, hv⟩ : ∃ v, v = w.heap.size := ⟨_, rfl⟩
 have H1 := Lib.hid (show Bx3 w1 v (.pointer none) (.pointer none) (.pointer none) ∧ w1.cell? ⟨v + 1, 0, none⟩ = some (.int .i64 n) ∧ Below w.heap.size w w1 from by
  have b1 := (Below.refl w.heap.size w).alloc (Nat.le_refl _) (.cells #[.pointer none, .pointer none, .pointer none] 70)
  have b2 := (Below.refl (w.alloc (.cells #[.pointer none, .pointer none, .pointer none] 70)).heap.size (w.alloc (.cells #[.pointer none, .pointer none, .pointer none] 70))).alloc (Nat.le_refl _) (.cells #[.int .i64 n] 3)
  rw [hw1, hv]
  refine ⟨(Bx3.new _ _ _ _ _).below b2, ?_, below_call b1 b2⟩
  rw [show w.heap.size + 1 = (w.alloc (.cells #[.pointer none, .pointer none, .pointer none] 70)).heap.size by simp, World.cell?_alloc_mark]
  rfl)
 go_enter Tryz.func36, Tryz.ntmps36
 go_upto_region 1 with fail
 rw [← hw1, ← hv]
 clear hw1 hv
 have c0 := H1.out.1.c0
 have c1 := H1.out.1.c1
 have c2 := H1.out.1.c2
 go_wp2_with fail
 refine (capop_nil w1 d).mono ?_
 rintro e w2 ⟨rfl, rfl⟩
 go_wp2_with fail
 refine (twice_none w1 v (v + 1) n c0 H1.out.2.1).mono ?_
 rintro e w2 ⟨rfl, hb⟩
 have H2 := Lib.hid (show Below w.heap.size w w2 from below_call H1.out.2.2 hb)
 clear hb c0 c1 c2
 go_wp2_with fail
 go_ret2
 exact ⟨rfl, H2.out⟩
set_option maxHeartbeats 4000000 in
theorem cget_none (pages kind o : Int) : Calls Tryz.prog 8 #[.pointer none, .int .i64 pages, .int .i64 kind, .int .u64 o] w fun e w' => e = .returned (.tuple #[.int .i64 0, .int .i64 0, .int .i64 1]) ∧ Below w.heap.size w w' := by
 by_cases hb : getB pages kind = true
 ·obtain ⟨h1, h2, h3, h4⟩ := (getB_iff _ _).1 hb
  have t1 : decide (pages < 1) = false := by simp; omega
  have t2 : decide (pages > 1048576) = false := by simp; omega
  have t3 : decide (kind < 0) = false := by simp; omega
  have t4 : decide (kind > 255) = false := by simp; omega
  obtain ⟨d, hd⟩ : ∃ d, d = M.cls pages := ⟨_, rfl⟩
  have HD := Lib.hid hd
  obtain ⟨n, hn⟩ : ∃ n, n = M.pg d := ⟨_, rfl⟩
  have HN := Lib.hid hn
  clear hd hn h1 h2 h3 h4 hb
  go_enter Tryz.func8, Tryz.ntmps8
  go_wp2_with fail
  refine (class_at pages d rfl HD.out.symm w).mono ?_
  rintro e w1 ⟨rfl, rfl⟩
  by_cases hd0 : 0 ≤ d
  ·go_wp2_with fail
   refine (cpages_at d n rfl HN.out.symm w).mono ?_
   rintro e w1 ⟨rfl, rfl⟩
   clear hd0 t1 t2 t3 t4
   go_wp2_with fail
   refine (parts_none w).mono ?_
   rintro e w1 ⟨rfl, hb⟩
   obtain ⟨w2, hw2⟩ : ∃ w2, w2 = w1.alloc (.cells #[.pointer none, .pointer none, .pointer none] 70) := ⟨_, rfl⟩
   have hb2 : Below w.heap.size w w2 := by rw [hw2]; exact below_call hb ((Below.refl _ _).alloc (Nat.le_refl _) _)
   have X2 : Bx3 w2 w1.heap.size (.pointer none) (.pointer none) (.pointer none) := by rw [hw2]; exact Bx3.new _ _ _ _ _
   have H2 := Lib.hid hb2
   go_upto_region 7 with fail
   rw [← hw2]
   generalize w1.heap.size = v at *
   clear hw2 hb2 hb
   have c0 := X2.c0
   have c1 := X2.c1
   have c2 := X2.c2
   clear X2
   go_wp2_with fail
   refine (gfind_none w2 d n).mono ?_
   rintro e w3 ⟨rfl, hb⟩
   have H3 := Lib.hid (below_call H2.out hb)
   clear hb c0 c1 c2
   go_wp2_with fail
   go_ret3
   exact ⟨rfl, H3.out⟩
  ·go_wp2_with fail
   clear hd0 t1 t2 t3 t4
   refine (parts_none w).mono ?_
   rintro e w1 ⟨rfl, hb⟩
   obtain ⟨w2, hw2⟩ : ∃ w2, w2 = w1.alloc (.cells #[.pointer none, .pointer none, .pointer none] 70) := ⟨_, rfl⟩
   have hb2 : Below w.heap.size w w2 := by rw [hw2]; exact below_call hb ((Below.refl _ _).alloc (Nat.le_refl _) _)
   have X2 : Bx3 w2 w1.heap.size (.pointer none) (.pointer none) (.pointer none) := by rw [hw2]; exact Bx3.new _ _ _ _ _
   have H2 := Lib.hid hb2
   go_upto_region 7 with fail
   rw [← hw2]
   generalize w1.heap.size = v at *
   clear hw2 hb2 hb
   have c0 := X2.c0
   have c1 := X2.c1
   have c2 := X2.c2
   clear X2
   go_wp2_with fail
   refine (gfind_none w2 d pages).mono ?_
   rintro e w3 ⟨rfl, hb⟩
   have H3 := Lib.hid (below_call H2.out hb)
   clear hb c0 c1 c2
   go_wp2_with fail
   go_ret3
   exact ⟨rfl, H3.out⟩
 ·exact cget_bad w none pages kind o (by simpa using hb)
set_option maxHeartbeats 4000000 in
theorem cput_none (p : Int) : Calls Tryz.prog 10 #[.pointer none, .int .i64 p] w fun e w' => e = .returned (.int .i64 3) ∧ Below w.heap.size w w' := by
 go_enter Tryz.func10, Tryz.ntmps10
 go_wp2_with fail
 refine (parts_none w).mono ?_
 rintro e w1 ⟨rfl, hb⟩
 obtain ⟨w2, hw2⟩ : ∃ w2, w2 = w1.alloc (.cells #[.pointer none, .pointer none, .pointer none] 70) := ⟨_, rfl⟩
 have hb2 : Below w.heap.size w w2 := by rw [hw2]; exact below_call hb ((Below.refl _ _).alloc (Nat.le_refl _) _)
 have X2 : Bx3 w2 w1.heap.size (.pointer none) (.pointer none) (.pointer none) := by rw [hw2]; exact Bx3.new _ _ _ _ _
 have H2 := Lib.hid hb2
 go_upto_region 2 with fail
 rw [← hw2]
 generalize w1.heap.size = v at *
 clear hw2 hb2 hb
 have c1 := X2.c1
 clear X2
 go_wp2_with fail
 refine (read_none w2 p).mono ?_
 rintro e w3 ⟨rfl, hb⟩
 have H3 := Lib.hid (below_call H2.out hb)
 clear hb c1
 have H4 := Lib.hid (H3.out.alloc H3.out.size (.cells #[.int .i64 0, .int .i64 0, .int .u64 0, .int .u64 0] 61))
 go_wp2_with fail
 go_ret
 exact ⟨rfl, H4.out⟩
set_option maxHeartbeats 4000000 in
theorem cticks_none : Calls Tryz.prog 17 #[.pointer none] w fun e w' => e = .returned (.int .i64 0) ∧ Below w.heap.size w w' := by
 go_enter Tryz.func17, Tryz.ntmps17
 go_wp2_with fail
 refine (parts_none w).mono ?_
 rintro e w1 ⟨rfl, hb⟩
 obtain ⟨w2, hw2⟩ : ∃ w2, w2 = w1.alloc (.cells #[.pointer none, .pointer none, .pointer none] 70) := ⟨_, rfl⟩
 have hb2 : Below w.heap.size w w2 := by rw [hw2]; exact below_call hb ((Below.refl _ _).alloc (Nat.le_refl _) _)
 have X2 : Bx3 w2 w1.heap.size (.pointer none) (.pointer none) (.pointer none) := by rw [hw2]; exact Bx3.new _ _ _ _ _
 go_upto_region 2 with fail
 rw [← hw2]
 generalize w1.heap.size = v at *
 clear hw2
 have HB := Lib.hid hb2
 have HS := Lib.hid (show ∀ W, Below w2.heap.size w2 W → W.cell? ⟨v, 0, none⟩ = some (.pointer none) ∧ W.cell? ⟨v, 1, none⟩ = some (.pointer none) from fun W hW => ⟨(X2.below hW).c0, (X2.below hW).c1⟩)
 clear hb hb2 X2
 refine wp_region_noPanic ?_
 refine wp_region_held_drew (S := fun W => W.cell? ⟨v, 0, none⟩ = some (.pointer none) ∧ W.cell? ⟨v, 1, none⟩ = some (.pointer none)) (by kernel_rfl) (HS.out _ (Below.refl _ _).drew) (fun hHeld => ?_)
 refine tkA 0 (some 6) (Op.fieldAddr 70 (Operand.tmp 3) 1) 0 (v := ?_) rfl (by kernel_rfl) ?_ ‹_› ?_
 rotate_left
 ·(intro w h; (try dsimp only at h); go_simp) <;> with_reducible rfl
 (try simp only [Act.put, yI, yZ, yS])
 refine tkA 1 (some 7) (Op.load 57 (Operand.tmp 6)) 57 (v := ?_) rfl (by kernel_rfl) ?_ ‹_› ?_
 rotate_left
 ·(intro w h; (try dsimp only at h); go_simp) <;> with_reducible rfl
 (try simp only [Act.put, yI, yZ, yS])
 refine tkA 3 (some 9) (Op.fieldAddr 70 (Operand.tmp 3) 0) 0 (v := ?_) rfl (by kernel_rfl) ?_ ‹_› ?_
 rotate_left
 ·(intro w h; (try dsimp only at h); go_simp) <;> with_reducible rfl
 (try simp only [Act.put, yI, yZ, yS])
 refine tkA 4 (some 10) (Op.load 64 (Operand.tmp 9)) 64 (v := ?_) rfl (by kernel_rfl) ?_ ‹_› ?_
 rotate_left
 ·(intro w h; (try dsimp only at h); go_simp) <;> with_reducible rfl
 (try simp only [Act.put, yI, yZ, yS])
 refine rdA (rs := [2]) (by kernel_rfl) ?_ rfl
 refine rcA (some 8) (Op.call { callee := Callee.value (Operand.func 48), args := #[Operand.tmp 7], argTypes := #[57] }) 3 rfl (by kernel_rfl) (fun K hK => ?_) AllReadyH.nil
 go_simp
 refine (ticks_nil _).mono ?_
 rintro e wf ⟨rfl, rfl⟩
 go_wp2_with fail
 refine hK.out _ _ ?_ (fun hHeld => ?_)
 ·exact HS.out _ ((Below.refl _ _).drew)
 clear hK K
 (try simp only [Act.put, yI, yZ, yS])
 refine rdA (rs := [5]) (by kernel_rfl) ?_ rfl
 refine rcA (some 11) (Op.call { callee := Callee.value (Operand.func 49), args := #[Operand.tmp 10], argTypes := #[64] }) 3 rfl (by kernel_rfl) (fun K hK => ?_) AllReadyH.nil
 go_simp
 refine (nil_ticks _).mono ?_
 rintro e wg ⟨rfl, hb⟩
 have HR := Lib.hid (show Below w2.heap.size w2 wg from below_call ((Below.refl _ _).drew) hb)
 clear hb
 go_wp2_with fail
 refine hK.out _ _ ?_ (fun hHeld => ?_)
 ·exact HS.out _ HR.out
 clear hK K
 (try simp only [Act.put, yI, yZ, yS])
 refine tkA 6 (some 12) (Op.binOp BinOp.add 3 (Operand.tmp 8) (Operand.tmp 11) 3) 3 (v := ?_) rfl (by kernel_rfl) ?_ ‹_› ?_
 rotate_left
 ·(intro w h; (try dsimp only at h); go_simp) <;> with_reducible rfl
 (try simp only [Act.put, yI, yZ, yS])
 refine tkA 7 (some 2) (Op.assign (Operand.tmp 12)) 3 (v := ?_) rfl (by kernel_rfl) ?_ ‹_› ?_
 rotate_left
 ·(intro w h; (try dsimp only at h); go_simp) <;> with_reducible rfl
 (try simp only [Act.put, yI, yZ, yS])
 refine wpAnyH_done (by kernel_rfl) ?_ _
 refine NoPanic.normal ?_
 go_wp2_with fail
 go_ret
 exact ⟨rfl, below_call HB.out HR.out⟩
set_option maxHeartbeats 4000000 in
theorem cfree_none : Calls Tryz.prog 18 #[.pointer none] w fun e w' => e = .returned (.tuple #[.int .i64 0, .int .i64 0]) ∧ Below w.heap.size w w' := by
 go_enter Tryz.func18, Tryz.ntmps18
 go_wp2_with fail
 refine (parts_none w).mono ?_
 rintro e w1 ⟨rfl, hb⟩
 obtain ⟨w2, hw2⟩ : ∃ w2, w2 = w1.alloc (.cells #[.pointer none, .pointer none, .pointer none] 70) := ⟨_, rfl⟩
 have hb2 : Below w.heap.size w w2 := by rw [hw2]; exact below_call hb ((Below.refl _ _).alloc (Nat.le_refl _) _)
 have X2 : Bx3 w2 w1.heap.size (.pointer none) (.pointer none) (.pointer none) := by rw [hw2]; exact Bx3.new _ _ _ _ _
 go_upto_region 2 with fail
 rw [← hw2]
 generalize w1.heap.size = v at *
 clear hw2
 have HB := Lib.hid hb2
 have HS := Lib.hid (show ∀ W, Below w2.heap.size w2 W → W.cell? ⟨v, 0, none⟩ = some (.pointer none) ∧ W.cell? ⟨v, 1, none⟩ = some (.pointer none) from fun W hW => ⟨(X2.below hW).c0, (X2.below hW).c1⟩)
 clear hb hb2 X2
 refine wp_region_noPanic ?_
 refine wp_region_held_drew (S := fun W => W.cell? ⟨v, 0, none⟩ = some (.pointer none) ∧ W.cell? ⟨v, 1, none⟩ = some (.pointer none)) (by kernel_rfl) (HS.out _ (Below.refl _ _).drew) (fun hHeld => ?_)
 refine tkA 0 (some 7) (Op.fieldAddr 70 (Operand.tmp 4) 0) 0 (v := ?_) rfl (by kernel_rfl) ?_ ‹_› ?_
 rotate_left
 ·(intro w h; (try dsimp only at h); go_simp) <;> with_reducible rfl
 (try simp only [Act.put, yI, yZ, yS])
 refine tkA 1 (some 8) (Op.load 64 (Operand.tmp 7)) 64 (v := ?_) rfl (by kernel_rfl) ?_ ‹_› ?_
 rotate_left
 ·(intro w h; (try dsimp only at h); go_simp) <;> with_reducible rfl
 (try simp only [Act.put, yI, yZ, yS])
 refine tkA 3 (some 10) (Op.fieldAddr 70 (Operand.tmp 4) 0) 0 (v := ?_) rfl (by kernel_rfl) ?_ ‹_› ?_
 rotate_left
 ·(intro w h; (try dsimp only at h); go_simp) <;> with_reducible rfl
 (try simp only [Act.put, yI, yZ, yS])
 refine tkA 4 (some 11) (Op.load 64 (Operand.tmp 10)) 64 (v := ?_) rfl (by kernel_rfl) ?_ ‹_› ?_
 rotate_left
 ·(intro w h; (try dsimp only at h); go_simp) <;> with_reducible rfl
 (try simp only [Act.put, yI, yZ, yS])
 refine rdA (rs := [2]) (by kernel_rfl) ?_ rfl
 refine rcA (some 9) (Op.call { callee := Callee.value (Operand.func 50), args := #[Operand.tmp 8], argTypes := #[64] }) 3 rfl (by kernel_rfl) (fun K hK => ?_) AllReadyH.nil
 go_simp
 refine (nil_free _).mono ?_
 rintro e wf ⟨rfl, hb⟩
 have HF := Lib.hid (show Below w2.heap.size w2 wf from below_call ((Below.refl _ _).drew) hb)
 clear hb
 go_wp2_with fail
 refine hK.out _ _ ?_ (fun hHeld => ?_)
 ·exact HS.out _ HF.out
 clear hK K
 (try simp only [Act.put, yI, yZ, yS])
 refine rdA (rs := [5]) (by kernel_rfl) ?_ rfl
 refine rcA (some 12) (Op.call { callee := Callee.value (Operand.func 46), args := #[Operand.tmp 11], argTypes := #[64] }) 29 rfl (by kernel_rfl) (fun K hK => ?_) AllReadyH.nil
 go_simp
 refine (nil_runs _).mono ?_
 rintro e wg ⟨rfl, hb⟩
 have HR := Lib.hid (show Below w2.heap.size w2 wg from below_call HF.out hb)
 clear hb
 go_wp2_with fail
 refine hK.out _ _ ?_ (fun hHeld => ?_)
 ·exact HS.out _ HR.out
 clear hK K
 (try simp only [Act.put, yI, yZ, yS])
 refine tkA 6 (some 13) (Op.call { callee := Callee.builtin Builtin.len, args := #[Operand.tmp 12], argTypes := #[29] }) 3 (v := ?_) rfl (by kernel_rfl) ?_ ‹_› ?_
 rotate_left
 ·(intro w h; (try dsimp only at h); go_simp) <;> with_reducible rfl
 (try simp only [Act.put, yI, yZ, yS])
 refine tkA 7 (some 2) (Op.assign (Operand.tmp 9)) 3 (v := ?_) rfl (by kernel_rfl) ?_ ‹_› ?_
 rotate_left
 ·(intro w h; (try dsimp only at h); go_simp) <;> with_reducible rfl
 (try simp only [Act.put, yI, yZ, yS])
 refine tkA 8 (some 3) (Op.assign (Operand.tmp 13)) 3 (v := ?_) rfl (by kernel_rfl) ?_ ‹_› ?_
 rotate_left
 ·(intro w h; (try dsimp only at h); go_simp) <;> with_reducible rfl
 (try simp only [Act.put, yI, yZ, yS])
 refine wpAnyH_done (by kernel_rfl) ?_ _
 refine NoPanic.normal ?_
 go_wp2_with fail
 go_ret2
 exact ⟨rfl, below_call HB.out HR.out⟩
end
end Go.Proofs.YtmboibipabkhaaaGreat
