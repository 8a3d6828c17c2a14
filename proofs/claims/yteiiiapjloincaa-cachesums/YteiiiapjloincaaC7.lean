/-
  What each function of package classes comes to.
-/
import Derived.Test.YteiiiapjloincaaC1
import Derived.Test.YteiiiapjloincaaM7
namespace Go.Proofs.Yteiiiapjloincaa
open Go.ChangeShapes Go.WideShapes Go.ChangeAt Go.RowKit
set_option linter.unusedVariables false

theorem ret3 {k : IntKind} {a b : Int} {p q r s : Bool} (h : a = b) (g : p = q) (f : r = s) : Ending.returned (.tuple #[.int k a, .bool p, .bool r]) = .returned (.tuple #[.int k b, .bool q, .bool s]) := by rw [h, g, f]
theorem cpages_any (c : Int) (w : World) :
    Calls Try.prog 22 #[.int .i64 c] w fun e w' => e = .returned (.int .i64 (M.pg c)) ∧ w = w' := by
  by_cases h1 : c < 0
  · go_enter Try.func22, Try.ntmps22
    go_wp2
    go_ret
    exact ⟨ret1 (M.pg_out c (.inl h1)).symm, rfl⟩
  · by_cases h2 : 7 ≤ c
    · go_enter Try.func22, Try.ntmps22
      go_wp2
      go_ret
      exact ⟨ret1 (M.pg_out c (.inr h2)).symm, rfl⟩
    · rcases (by omega : c = 0 ∨ c = 1 ∨ c = 2 ∨ c = 3 ∨ c = 4 ∨ c = 5 ∨ c = 6) with rfl | rfl | rfl | rfl | rfl | rfl | rfl
      all_goals clear h1 h2
      all_goals go_enter Try.func22, Try.ntmps22
      all_goals go_wp2
      all_goals go_ret
      all_goals exact ⟨ret1 (by decide), rfl⟩
theorem cpages_at {i : Int} (c g : Int) (ei : i = c) (eg : M.pg c = g) (w : World) :
    Calls Try.prog 22 #[.int .i64 i] w fun e w' => e = .returned (.int .i64 g) ∧ w = w' := by
  subst ei eg; exact cpages_any _ w
end Go.Proofs.Yteiiiapjloincaa
