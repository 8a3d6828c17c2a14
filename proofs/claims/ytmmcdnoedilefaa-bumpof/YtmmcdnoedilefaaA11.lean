/-
  The document's examples of layer 11, and what the laws of the layer lean on.
-/
import Derived.Test.YtmmcdnoedilefaaF11
namespace Go.Proofs.Ytmmcdnoedilefaa
open Go.ChangeShapes Go.WideShapes Go.ChangeAt Go.RowKit
set_option linter.unusedVariables false
set_option maxRecDepth 20000

theorem awake_any (w : World) : Calls Try.prog 8 #[] w fun e w' => e = .returned (.bool true) ∧ Below w.heap.size w w' := by
  go_enter Try.func8, Try.ntmps8
  go_wp2_with fail
  refine (of_at 1 1 4128 8192 rfl rfl (by decide) (by decide) (by decide) (by decide) (by decide) (by decide) _).mono ?_
  rintro e w1 ⟨rfl, b1⟩
  have X := Box2.new w1 25 (.int .u64 4128) (.int .u64 8192)
  have B2 := below_call b1 (below_new2 w1 (.cells #[.int .u64 4128, .int .u64 8192] 25))
  go_upto_region 2 with fail
  generalize w1.alloc (.cells #[.int .u64 4128, .int .u64 8192] 25) = w2 at *
  generalize w1.heap.size = g1 at *
  have c0 := X.c0
  have c1 := X.c1
  go_wp2_with fail
  refine (fit_at 4128 8192 10 64 4160 4170 8192 32 true rfl rfl rfl rfl (by decide) (by decide) (by decide) (by decide) (by decide) (by decide) (by decide) (by decide) (by decide) _).mono ?_
  rintro e w3 ⟨rfl, b3⟩
  have Y := X.below b3
  have B4 := below_call (below_call B2 b3) (below_new2 w3 (.cells #[.int .u64 4170, .int .u64 8192] 25))
  have Z := Y.below (below_new2 w3 (.cells #[.int .u64 4170, .int .u64 8192] 25))
  have U := Box2.new w3 25 (.int .u64 4170) (.int .u64 8192)
  clear X c0 c1 b1 B2 b3 Y
  go_upto_region 3 with fail
  generalize w3.alloc (.cells #[.int .u64 4170, .int .u64 8192] 25) = w4 at *
  generalize w3.heap.size = g3 at *
  have c0 := Z.c0
  have c1 := Z.c1
  have d0 := U.c0
  have d1 := U.c1
  have HB := Lib.hid B4
  clear B4 Z U
  go_wp2_with fail
  refine (left_at 4170 8192 4022 rfl rfl (by decide) (by decide) (by decide) _).mono ?_
  rintro e w5 ⟨rfl, b5⟩
  go_wp2
  go_ret
  exact ⟨rfl, below_call HB.out b5⟩
/-- An alignment that a statement makes of a byte. -/
theorem shifted13 (k : Nat) : ∃ a : Nat, IntKind.u64.wrap (2 ^ (k % 13)) = a ∧ M.powB a = true ∧ a ≤ 4096 ∧ 0 < a := by
  have hp : 2 ^ (k % 13) ≤ 2 ^ 12 := Nat.pow_le_pow_right (by decide) (by omega)
  refine ⟨2 ^ (k % 13), ?_, M.powB_two_pow _, hp, Nat.two_pow_pos _⟩
  rw [wrapU, show ((2 : Int) ^ (k % 13)) = ((2 ^ (k % 13) : Nat) : Int) by simp]
  generalize 2 ^ (k % 13) = p at hp
  omega
end Go.Proofs.Ytmmcdnoedilefaa
