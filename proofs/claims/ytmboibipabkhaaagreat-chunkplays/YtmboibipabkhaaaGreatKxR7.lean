/-
  What each of the document's answers for layer 7 comes to.
-/
import Derived.Test.YtmboibipabkhaaaGreatKxR1
import Derived.Test.YtmboibipabkhaaaGreatKxK9
namespace Go.Proofs.YtmboibipabkhaaaGreat
open Go.ChangeShapes Go.WideShapes Go.ChangeAt Go.RowKit
set_option linter.unusedVariables false
theorem rcpages_any (c : Int) (w : World) :
  Calls Tryz.prog 29 #[.int .i64 c] w fun e w' => e = .returned (.int .i64 (M.pg c)) ∧ w = w' := by
 go_enter Tryz.func29, Tryz.ntmps29
 go_wp2
 go_loop [3, 4] (fun n i => ∃ k m : Nat, k ≤ 7 ∧ m ≤ 128 ∧ m = 2 ^ k ∧ (c < 0 ∨ (k : Int) ≤ c) ∧ n = .int .i64 m ∧ i = .int .i64 k) (fun _ i => 7 - (intOf i).toNat)
 case atStart => exact ⟨0, 1, by omega, by omega, rfl, by omega, rfl, rfl⟩
 case round =>
  obtain ⟨k, m, hk, hm, em, hc, rfl, rfl⟩ := hrel
  have EM := Lib.hid em; have HC := Lib.hid hc; clear em hc
  by_cases hlt : k < 7
  ·by_cases hz : c = (k : Int)
   ·subst hz
    go_wp2
    go_ret
    exact ⟨ret1 (by rw [M.pg_pow k hlt, EM.out]), rfl⟩
   ·have hz' : ((k : Int) == c) = false := by simp; omega
    have HZ := Lib.hid hz; clear hz
    have m64 : m ≤ 64 := by
     rw [EM.out]
     exact Nat.pow_le_pow_right (by decide) (by omega : k ≤ 6)
    go_wp2
    go_round
    case rel => exact ⟨k + 1, m * 2, by omega, by omega, by rw [EM.out, Nat.pow_succ], by have := HZ.out; have := HC.out; omega, by go_num, by go_num⟩
    case measure => simp [intOf]; omega
  ·go_wp2
   go_ret
   have := HC.out
   exact ⟨ret1 (M.pg_out c (by omega)).symm, rfl⟩
theorem rcpages_at {i : Int} (c g : Int) (ei : i = c) (eg : M.pg c = g) (w : World) :
  Calls Tryz.prog 29 #[.int .i64 i] w fun e w' => e = .returned (.int .i64 g) ∧ w = w' := by
 subst ei eg; exact rcpages_any _ w
theorem rclass_any (p : Int) (w : World) :
  Calls Tryz.prog 28 #[.int .i64 p] w fun e w' => e = .returned (.int .i64 (M.cls p)) ∧ w = w' := by
 by_cases h1 : p < 1
 ·go_enter Tryz.func28, Tryz.ntmps28
  go_wp2
  go_ret
  exact ⟨ret1 (M.cls_low p h1).symm, rfl⟩
 ·go_enter Tryz.func28, Tryz.ntmps28
  go_wp2_with fail
  go_loop [3] (fun i => ∃ k : Nat, k ≤ 7 ∧ (k = 0 ∨ M.pg ((k : Int) - 1) < p) ∧ i = .int .i64 k) (fun i => 7 - (intOf i).toNat)
  case atStart => exact ⟨0, by omega, .inl rfl, rfl⟩
  case round =>
   obtain ⟨k, hk, hb, rfl⟩ := hrel
   have HB := Lib.hid hb; clear hb
   by_cases hlt : k < 7
   ·generalize hg : M.pg (k : Int) = g
    have HG := Lib.hid hg; clear hg
    by_cases hz : p ≤ g
    ·go_wp2_with fail
     refine (rcpages_at (k : Int) g rfl HG.out _).mono ?_
     rintro e w' ⟨rfl, rfl⟩
     go_wp2
     go_ret
     exact ⟨ret1 (M.cls_eq p k hlt (by omega) (by rw [HG.out]; exact hz) HB.out).symm, rfl⟩
    ·go_wp2_with fail
     refine (rcpages_at (k : Int) g rfl HG.out _).mono ?_
     rintro e w' ⟨rfl, rfl⟩
     go_wp2
     go_round
     case rel => exact ⟨k + 1, by omega, .inr (by rw [show (((k + 1 : Nat) : Int) - 1) = k by omega, HG.out]; omega), by go_num⟩
     case measure => simp [intOf]; omega
   ·have e : k = 7 := by omega
    subst e
    go_wp2
    go_ret
    have := HB.out
    simp [M.pg] at this
    exact ⟨ret1 (M.cls_none p (by omega)).symm, rfl⟩
theorem rclass_at {i : Int} (p g : Int) (ei : i = p) (eg : M.cls p = g) (w : World) :
  Calls Tryz.prog 28 #[.int .i64 i] w fun e w' => e = .returned (.int .i64 g) ∧ w = w' := by
 subst ei eg; exact rclass_any _ w
end Go.Proofs.YtmboibipabkhaaaGreat
