/-
  The document's examples, by the program.
-/
import Derived.Test.YtbmibggjdilhkaaEx5
namespace Go.Proofs.Ytbmibggjdilhkaa
open Go.ChangeShapes Go.WideShapes Go.ChangeAt Go.RowKit Go.Deep
set_option linter.unusedVariables false
set_option maxRecDepth 20000

set_option maxHeartbeats 4000000 in
theorem awake_any (w : World) : Calls Try.prog 11 #[] w fun e w' => e = .returned (.bool true) ∧ Below w.heap.size w w' := by
  have r0 := runs_two w 36 0 2 5 1
  have b0 : Below w.heap.size w (w.alloc (.cells #[.int .i64 0, .int .i64 2, .int .i64 5, .int .i64 1] 36)) := (Below.refl _ _).alloc (Nat.le_refl _) _
  have R0 := Lib.hid (show Runs _ _ ex0 from r0)
  have B0 := Lib.hid b0
  clear r0 b0
  go_enter Try.func11, Try.ntmps11
  go_wp2_with fail
  refine (ex_take _ _ 2 R0.out).mono ?_
  rintro e w2 ⟨A2, t2, c2, rfl, ht2, r2, b2, _⟩
  obtain rfl : t2 = 1 := ht2
  have R2 := Lib.hid (And.intro r2 (And.intro b2 (R0.out.below b2)))
  clear r2 b2
  go_wp2_with fail
  refine (ex_give _ _ 2 R2.out.2.2).mono ?_
  rintro e w3 ⟨A3, t3, c3, rfl, ht3, r3, b3⟩
  obtain rfl : t3 = 2 := ht3
  have R3 := Lib.hid (And.intro r3 (And.intro (below_call R2.out.2.1 b3) (And.intro (R2.out.2.2.below b3) (R2.out.1.below b3))))
  clear r3 b3
  go_wp2_with fail
  refine (ex_best _ _ 2 R3.out.2.2.1).mono ?_
  rintro e w4 ⟨rfl, b4⟩
  have R4 := Lib.hid (And.intro (R3.out.1.below b4) (And.intro (below_call R3.out.2.1 b4) (And.intro (R3.out.2.2.1.below b4) (R3.out.2.2.2.below b4))))
  clear b4
  go_wp2_with fail
  refine (same_any _ A2 (some ⟨w4.heap.size, 0, none⟩) ex1 ex1 1 c2 1 1 rfl rfl (R4.out.2.2.2.alloc _) (runs_one w4 _ 5 1) (by omega)).mono ?_
  rintro e w5 ⟨rfl, b5⟩
  have e5 : decide (ex1 = ex1) = true := by decide
  rw [e5]
  have q5 := below_call (R4.out.2.1.alloc R4.out.2.1.size (.cells #[.int .i64 5, .int .i64 1] 36)) b5
  have R5 := Lib.hid (And.intro q5 (And.intro ((R4.out.2.2.1.alloc _).below b5) ((R4.out.1.alloc _).below b5)))
  clear b5 q5 e5
  go_wp2_with fail
  refine (same_any _ A3 (some ⟨w5.heap.size, 0, none⟩) ex2 ex2 2 c3 2 2 rfl rfl (R5.out.2.2.alloc _) (runs_two w5 _ 0 2 3 3) (by omega)).mono ?_
  rintro e w6 ⟨rfl, b6⟩
  have e6 : decide (ex2 = ex2) = true := by decide
  rw [e6]
  have q6 := below_call (R5.out.1.alloc R5.out.1.size (.cells #[.int .i64 0, .int .i64 2, .int .i64 3, .int .i64 3] 36)) b6
  have R6 := Lib.hid (And.intro q6 ((R5.out.2.1.alloc _).below b6))
  clear b6 q6 e6
  go_wp2_with fail
  refine (ex_right _ _ 2 R6.out.2).mono ?_
  rintro e w7 ⟨rfl, b7⟩
  have R7 := Lib.hid (And.intro (below_call R6.out.1 b7) (R6.out.2.below b7))
  clear b7
  go_wp2_with fail
  refine (ex_total _ _ 2 R7.out.2).mono ?_
  rintro e w8 ⟨rfl, b8⟩
  have R8 := Lib.hid (And.intro (below_call R7.out.1 b8) (R7.out.2.below b8))
  clear b8
  go_wp2_with fail
  refine (ex_has _ _ 2 R8.out.2).mono ?_
  rintro e w9 ⟨rfl, b9⟩
  have R9 := Lib.hid (below_call R8.out.1 b9)
  clear b9
  go_wp2_with fail
  go_ret
  exact ⟨rfl, below_call B0.out R9.out⟩
end Go.Proofs.Ytbmibggjdilhkaa
