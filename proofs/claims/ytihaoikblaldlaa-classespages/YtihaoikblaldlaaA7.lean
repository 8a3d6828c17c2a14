/-
  The document's examples of layer 7, and what the laws of the layer lean on.
-/
import Derived.Test.YtihaoikblaldlaaC7
namespace Go.Proofs.Ytihaoikblaldlaa
open Go.ChangeShapes Go.WideShapes Go.ChangeAt Go.RowKit
set_option linter.unusedVariables false

theorem awake_any (w : World) : Calls Try.prog 9 #[] w fun e w' => e = .returned (.bool true) ∧ w = w' := by
  go_enter Try.func9, Try.ntmps9
  go_wp2_with fail
  refine (need_at 4064 1 1 true rfl rfl (by decide) (by decide) (by decide) (by decide) _).mono ?_
  rintro e w' ⟨rfl, rfl⟩
  go_wp2_with fail
  refine (need_at 4065 1 2 true rfl rfl (by decide) (by decide) (by decide) (by decide) _).mono ?_
  rintro e w' ⟨rfl, rfl⟩
  go_wp2_with fail
  refine (need_at 1 4096 2 true rfl rfl (by decide) (by decide) (by decide) (by decide) _).mono ?_
  rintro e w' ⟨rfl, rfl⟩
  go_wp2_with fail
  refine (chunk_at 16384 8 8 false true rfl rfl (by decide) (by decide) (by decide) (by decide) (by decide) _).mono ?_
  rintro e w' ⟨rfl, rfl⟩
  go_wp2_with fail
  refine (chunk_at 262144 8 65 true true rfl rfl (by decide) (by decide) (by decide) (by decide) (by decide) _).mono ?_
  rintro e w' ⟨rfl, rfl⟩
  go_wp2_with fail
  refine (cpages_at 6 64 rfl (by decide) _).mono ?_
  rintro e w' ⟨rfl, rfl⟩
  go_wp2_with fail
  refine (class_at 64 6 rfl (by decide) _).mono ?_
  rintro e w' ⟨rfl, rfl⟩
  go_wp2
  go_ret
  exact ⟨rfl, rfl⟩
/-- An alignment that a statement makes of a byte. -/
theorem shifted13 (k : Nat) : ∃ a : Nat, IntKind.u64.wrap (2 ^ (k % 13)) = a ∧ M.powB a = true ∧ a ≤ 4096 ∧ 0 < a := by
  have hp : 2 ^ (k % 13) ≤ 2 ^ 12 := Nat.pow_le_pow_right (by decide) (by omega)
  refine ⟨2 ^ (k % 13), ?_, M.powB_two_pow _, hp, Nat.two_pow_pos _⟩
  rw [wrapU, show ((2 : Int) ^ (k % 13)) = ((2 ^ (k % 13) : Nat) : Int) by simp]
  generalize 2 ^ (k % 13) = p at hp
  omega
end Go.Proofs.Ytihaoikblaldlaa
