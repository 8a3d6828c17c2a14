/-
  What each function of the document's package of layer 12 comes to.
-/
import Derived.Test.YtbkdlblpoohliaaM12
import Derived.Laws.Bits64b
namespace Go.Proofs.Ytbkdlblpoohliaa
open Go.ChangeShapes Go.WideShapes Go.ChangeAt Go.RowKit
set_option linter.unusedVariables false

theorem rhpack_any (k s g : Int) (hk : -9223372036854775808 ≤ k) (hk' : k ≤ 9223372036854775807) (w : World) :
    Calls Try.prog 36 #[.int .i64 k, .int .i64 s, .int .i64 g] w fun r w' => r = .returned (.int .u64 (M.hpV k s g)) ∧ w = w' := by
  by_cases h : 1 ≤ k ∧ k ≤ 3 ∧ 0 ≤ s ∧ s < 4294967296 ∧ 0 ≤ g ∧ g < 1073741824
  · rw [M.hpV_yes _ _ _ h]
    obtain ⟨h1, h2, h3, h4, h5, h6⟩ := h
    have z1 : decide (k < 1) = false := decide_eq_false (by omega)
    have z2 : decide (3 < k) = false := decide_eq_false (by omega)
    have z3 : decide (s < 0) = false := decide_eq_false (by omega)
    have z4 : decide (4294967295 < s) = false := decide_eq_false (by omega)
    have z5 : decide (g < 0) = false := decide_eq_false (by omega)
    have z6 : decide (1073741823 < g) = false := decide_eq_false (by omega)
    go_enter Try.func36, Try.ntmps36
    go_wp2_with fail
    go_ret
    exact ⟨ret1 (by omega), rfl⟩
  · rw [M.hpV_no _ _ _ h]
    by_cases h1 : k < 1
    · go_enter Try.func36, Try.ntmps36
      go_wp2_with fail
      go_ret
      exact ⟨rfl, rfl⟩
    by_cases h2 : 3 < k
    · go_enter Try.func36, Try.ntmps36
      go_wp2_with fail
      go_ret
      exact ⟨rfl, rfl⟩
    by_cases h3 : s < 0
    · go_enter Try.func36, Try.ntmps36
      go_wp2_with fail
      go_ret
      exact ⟨rfl, rfl⟩
    by_cases h4 : 4294967295 < s
    · go_enter Try.func36, Try.ntmps36
      go_wp2_with fail
      go_ret
      exact ⟨rfl, rfl⟩
    by_cases h5 : g < 0
    · go_enter Try.func36, Try.ntmps36
      go_wp2_with fail
      go_ret
      exact ⟨rfl, rfl⟩
    have h6 : 1073741823 < g := by omega
    go_enter Try.func36, Try.ntmps36
    go_wp2_with fail
    go_ret
    exact ⟨rfl, rfl⟩
theorem rhpack_at {ik is ig : Int} (k s g p : Int) (e1 : ik = k) (e2 : is = s) (e3 : ig = g) (hk : -9223372036854775808 ≤ k) (hk' : k ≤ 9223372036854775807) (hp : M.hpV k s g = p) (w : World) :
    Calls Try.prog 36 #[.int .i64 ik, .int .i64 is, .int .i64 ig] w fun r w' => r = .returned (.int .u64 p) ∧ w = w' := by
  subst e1 e2 e3 hp; exact rhpack_any ik is ig hk hk' w
theorem rhnext_any (g : Int) (hk : -9223372036854775808 ≤ g) (hk' : g ≤ 9223372036854775807) (w : World) :
    Calls Try.prog 39 #[.int .i64 g] w fun r w' => r = .returned (.int .i64 (M.hnV g)) ∧ w = w' := by
  by_cases h1 : g < 0
  · rw [M.hnV_no g (by omega)]
    go_enter Try.func39, Try.ntmps39
    go_wp2_with fail
    go_ret
    exact ⟨rfl, rfl⟩
  by_cases h2 : 1073741823 ≤ g
  · rw [M.hnV_no g (by omega)]
    go_enter Try.func39, Try.ntmps39
    go_wp2_with fail
    go_ret
    exact ⟨rfl, rfl⟩
  rw [M.hnV_yes g (by omega)]
  go_enter Try.func39, Try.ntmps39
  go_wp2_with fail
  go_ret
  exact ⟨ret1 (by omega), rfl⟩
theorem rhnext_at {ig : Int} (g n : Int) (e : ig = g) (hk : -9223372036854775808 ≤ g) (hk' : g ≤ 9223372036854775807) (hn : M.hnV g = n) (w : World) :
    Calls Try.prog 39 #[.int .i64 ig] w fun r w' => r = .returned (.int .i64 n) ∧ w = w' := by
  subst e hn; exact rhnext_any ig hk hk' w
end Go.Proofs.Ytbkdlblpoohliaa
