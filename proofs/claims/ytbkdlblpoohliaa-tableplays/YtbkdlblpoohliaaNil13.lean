/-
  What a nil table of ints answers.
-/
import Derived.Test.YtbkdlblpoohliaaStdI
namespace Go.Proofs.Ytbkdlblpoohliaa.TI
open Go.ChangeShapes Go.WideShapes Go.ChangeAt Go.RowKit Go.Deep T13
set_option linter.unusedVariables false
set_option maxRecDepth 20000

theorem nlive (w : World) (hh : Nat) (h64 : hh < 18446744073709551616) :
    Calls Try.prog 38 #[.pointer none, .int .u64 (hh : Int)] w fun e w' => e = .returned (.tuple #[.pointer none, .int .i64 0]) ∧ Below w.heap.size w w' := by
  go_enter Try.func38, Try.ntmps38
  go_wp2_with fail
  refine (hunpack_at hh _ _ _ _ rfl h64 rfl rfl rfl rfl _).mono ?_
  rintro _ w1 ⟨rfl, b1⟩
  go_wp2_with fail
  refine bodyPost_ret (v := .tuple #[.pointer none, .int .i64 0]) ?_ rfl ?_
  · simp [results, go_sem]
  · exact ⟨rfl, b1⟩
theorem nget (w : World) (hh : Nat) (h64 : hh < 18446744073709551616) :
    Calls Try.prog 12 #[.pointer none, .int .u64 (hh : Int)] w fun e w' => e = .returned (.tuple #[.int .i64 0, .bool false]) ∧ Below w.heap.size w w' := by
  go_enter Try.func12, Try.ntmps12
  go_wp2_with fail
  refine (nlive w hh h64).mono ?_
  rintro _ w1 ⟨rfl, b1⟩
  go_wp2_with fail
  refine bodyPost_ret (v := .tuple #[.int .i64 0, .bool false]) ?_ rfl ?_
  · simp [results, go_sem]
  · exact ⟨rfl, b1⟩
theorem nset (w : World) (hh : Nat) (h64 : hh < 18446744073709551616) (v : Int) :
    Calls Try.prog 15 #[.pointer none, .int .u64 (hh : Int), .int .i64 v] w fun e w' => e = .returned (.bool false) ∧ Below w.heap.size w w' := by
  go_enter Try.func15, Try.ntmps15
  go_wp2_with fail
  refine (nlive w hh h64).mono ?_
  rintro _ w1 ⟨rfl, b1⟩
  go_wp2_with fail
  go_ret
  exact ⟨rfl, b1⟩
theorem ndrop (w : World) (hh : Nat) (h64 : hh < 18446744073709551616) :
    Calls Try.prog 17 #[.pointer none, .int .u64 (hh : Int)] w fun e w' => e = .returned (.bool false) ∧ Below w.heap.size w w' := by
  go_enter Try.func17, Try.ntmps17
  go_wp2_with fail
  refine (nlive w hh h64).mono ?_
  rintro _ w1 ⟨rfl, b1⟩
  go_wp2_with fail
  go_ret
  exact ⟨rfl, b1⟩
theorem nadd (w : World) (v : Int) :
    Calls Try.prog 11 #[.pointer none, .int .i64 v] w fun e w' => e = .returned (.int .u64 0) ∧ w = w' := by
  go_enter Try.func11, Try.ntmps11
  go_wp2_with fail
  go_ret
  exact ⟨rfl, rfl⟩
theorem nlen (w : World) :
    Calls Try.prog 18 #[.pointer none] w fun e w' => e = .returned (.int .i64 0) ∧ w = w' := by
  go_enter Try.func18, Try.ntmps18
  go_wp2_with fail
  go_ret
  exact ⟨rfl, rfl⟩
theorem nhnd (w : World) :
    Calls Try.prog 20 #[.pointer none] w fun e w' => e = .returned (.slice none 0 0) ∧ w = w' := by
  go_enter Try.func20, Try.ntmps20
  go_wp2_with fail
  go_ret
  exact ⟨rfl, rfl⟩
end Go.Proofs.Ytbkdlblpoohliaa.TI
