/-
  The document's examples: 'awake' is true.
-/
import Derived.Test.YtdchnncoddjngaaOps4
import Derived.Lib.SlBytesConst
namespace Go.Proofs.Ytdchnncoddjngaa
open Go.ChangeShapes Go.WideShapes Go.ChangeAt Go.RowKit
set_option linter.unusedVariables false

abbrev abObj : Obj := .cells #[.int .u8 97, .int .u8 98] 5 (2, 3)
theorem ab_made (W : World) : Own (W.alloc abObj) W.heap.size [97, 98] := by
  refine ⟨fun j hj => ?_, fun j hj => ?_⟩
  · rw [World.cell?_alloc_mark]
    match j, hj with
    | 0, _ => rfl
    | 1, _ => rfl
  · rw [World.frozen?_alloc_mark]
    have hj : j < 2 := hj
    simp only [Bool.and_eq_false_imp, decide_eq_true_eq, decide_eq_false_iff_not]
    omega

theorem awake_any (w : World) : Calls Try.prog 10 #[] w fun e w' => e = .returned (.bool true) ∧ Below w.heap.size w w' := by
  have cs : ∀ W : World, (convert 32 32 (.slice (some ⟨W.heap.size, 0, none⟩) 2 2)).run Try.prog (W.alloc (.cells #[.int .u8 97, .int .u8 98] 5)) = .ok (.slice (some ⟨W.heap.size, 0, none⟩) 2 2) (W.alloc abObj) := fun W => Lib.run_convert_bytes_const W 32 5 #[.int .u8 97, .int .u8 98] 2 2 Try.underlying32 Try.underlying5
  go_enter Try.func10, Try.ntmps10
  go_wp2_with fail
  refine (snew_any 1 1 (by decide) _).mono ?_
  rintro e w1 ⟨s, rfl, S1, b1⟩
  go_wp2_with fail
  refine (store_ok (S1.alloc _) 4094 2 2 (some ⟨w1.heap.size, 0, none⟩) [97, 98] rfl (ab_made w1).lies (Nat.le_refl _) (fun _ ad e hO => ?_) (by decide) (by decide) (by decide) (by decide)).mono ?_
  · injection e with e
    rw [← e] at hO
    exact absurd hO.2 (Nat.lt_irrefl _)
  rintro e w2 ⟨rfl, S2, k2⟩
  go_wp2_with fail
  refine (store_range (S2.alloc _) 4095 2 2 _ (by decide) (by decide) (by decide)).mono ?_
  rintro e w3 ⟨rfl, b3⟩
  have S3 := (S2.alloc abObj).below b3
  go_wp2_with fail
  refine (load_ok S3 4093 3 (by decide) (by decide) (by decide) (by decide)).mono ?_
  rintro e w4 ⟨g, rfl, hg1, hg2, o4, S4, k4⟩
  go_wp2_with fail
  refine (snew_any 2 2 (by decide) _).mono ?_
  rintro e w5 ⟨t, rfl, S5, b5⟩
  go_wp2_with fail
  refine (load_ok S5 4095 2 (by decide) (by decide) (by decide) (by decide)).mono ?_
  rintro e w6 ⟨g6, rfl, hg61, hg62, o6, S6, k6⟩
  have S46 := (S4.below b5).kept k6 (fun b hb h => by have := S4.lt hb; omega)
  have q4 := b5.size
  have o46 := k6.own (o4.below (B := w4.heap.size) hg2 b5) (by omega) (fun h => by omega)
  have hr : M.rd (M.wr (fun _ => 0) 4094 [97, 98]) 4093 3 = [0, 97, 98] := by decide
  rw [hr] at o46
  have hq := conv_at w6 (some ⟨g, 0, none⟩) 3 [0, 97, 98] 3 rfl o46.lies
  have z0 : (w1.alloc abObj).heap.size = w1.heap.size + 1 := by simp
  have z1 : (w2.alloc abObj).heap.size = w2.heap.size + 1 := by simp
  have B := Lib.hid (show Below w.heap.size w w6 from by
    have p1 := b1.size
    have p2 := k2.size
    have p3 := b3.size
    have p4 := k4.size
    have p5 := b5.size
    have c1 : Below w.heap.size w1 w2 := ((Below.refl _ _).alloc p1 _).trans (k2.below (by omega) (fun i h => h.1))
    have c2 : Below w.heap.size w2 w3 := ((Below.refl _ _).alloc (by omega) _).trans (b3.mono (by omega))
    have c3 : Below w.heap.size w3 w4 := k4.below (by omega) (fun i h => by omega)
    have c5 : Below w.heap.size w5 w6 := k6.below (by omega) (fun i h => by omega)
    exact (((b1.trans c1).trans c2).trans c3).trans ((b5.mono (by omega)).trans c5))
  have HS := Lib.hid S46
  have HT := Lib.hid S6
  clear S1 S2 S3 S4 S5 S6 S46 k2 k4 k6 b1 b3 b5 o4 o6 o46 hr z0 z1 q4 hg1 hg2 hg61 hg62
  go_wp2_with fail
  refine (sticks_any HS.out).mono ?_
  rintro e w' ⟨rfl, rfl⟩
  go_wp2_with fail
  refine (sticks_any HT.out).mono ?_
  rintro e w' ⟨rfl, rfl⟩
  go_wp2_with fail
  refine (ssize_any HS.out).mono ?_
  rintro e w' ⟨rfl, rfl⟩
  go_wp2
  go_ret
  exact ⟨rfl, B.out⟩
end Go.Proofs.Ytdchnncoddjngaa
