/-
  What each of the document's answers for layer 1 comes to.
-/
import Derived.Test.YtmmcdnoedilefaaBase
import Derived.Test.YtmmcdnoedilefaaM1
namespace Go.Proofs.Ytmmcdnoedilefaa
open Go.ChangeShapes Go.WideShapes Go.ChangeAt Go.RowKit
set_option linter.unusedVariables false

theorem half_any (n : Nat) (h : n < 18446744073709551616) (w : World) :
    Calls Try.prog 24 #[.int .u64 n] w fun e w' => e = .returned (.tuple #[.int .u64 ((n / 2 : Nat) : Int), .bool (n % 2 == 1)]) ∧ w = w' := by
  go_enter Try.func24, Try.ntmps24
  go_wp2
  go_ret2
  exact ⟨ret2 (by omega) (by rw [Bool.eq_iff_iff]; simp; omega), rfl⟩
theorem rbadd_any (a b : Nat) (ha : a < 18446744073709551616) (hb : b < 18446744073709551616) (w : World) :
    Calls Try.prog 23 #[.int .u64 a, .int .u64 b] w fun e w' => e = .returned (.tuple #[.int .u64 (M.addV a b : Nat), .bool (M.addB a b)]) ∧ w = w' := by
  have hw := wrapU ((a : Int) + b)
  have H := Lib.hid hw; clear hw
  go_enter Try.func23, Try.ntmps23
  go_wp2
  · rename_i h
    go_ret2
    have := H.out
    have hlt : ¬ (a + b < 18446744073709551616) := by omega
    exact ⟨ret2 (by simp [M.addV, hlt]) (by simp [M.addB]; omega), rfl⟩
  · rename_i h
    go_ret2
    have := H.out
    have hlt : a + b < 18446744073709551616 := by omega
    exact ⟨ret2 (by simp [M.addV, hlt] <;> omega) (by simp [M.addB]; omega), rfl⟩
theorem rpow_any (n : Nat) (h : n < 18446744073709551616) (w : World) :
    Calls Try.prog 22 #[.int .u64 n] w fun e w' => e = .returned (.bool (M.powB n)) ∧ w = w' := by
  have hs := M.size_le n h
  have ho := M.ones_le n
  go_enter Try.func22, Try.ntmps22
  go_wp2
  go_loop [0, 3, 4, 5] (fun x k _ _ => ∃ m : Nat, m ≤ n ∧ M.ones m ≤ M.ones n ∧ x = .int .u64 m ∧ k = .int .i64 ((M.ones n : Int) - M.ones m)) (fun x _ _ _ => (intOf x).toNat)
  case atStart => exact ⟨n, Nat.le_refl _, Nat.le_refl _, rfl, by go_num⟩
  case round =>
    obtain ⟨m, hm, hle, rfl, rfl⟩ := hrel
    by_cases h0 : 0 < m
    · have e := M.ones_pos m (by omega)
      have E := Lib.hid e; clear e
      by_cases p : m % 2 = 1
      · have p' : (m % 2 == 1) = true := by simp [p]
        have P := Lib.hid p; clear p
        go_wp2_with (go_at_call 24; refine (half_any _ (by omega) _).mono ?_; rintro e w' ⟨rfl, rfl⟩)
        go_round
        case rel => exact ⟨m / 2, by omega, by have := E.out; omega, rfl, by have := E.out; have := P.out; go_num⟩
        case measure => simp [intOf]; omega
      · have p' : (m % 2 == 1) = false := by simp [p]
        have P := Lib.hid p; clear p
        go_wp2_with (go_at_call 24; refine (half_any _ (by omega) _).mono ?_; rintro e w' ⟨rfl, rfl⟩)
        go_round
        case rel => exact ⟨m / 2, by omega, by have := E.out; omega, rfl, by have := E.out; have := P.out; go_num⟩
        case measure => simp [intOf]; omega
    · have e : m = 0 := by omega
      subst e
      go_wp2
      go_ret
      exact ⟨retB (by rw [← M.powB_ones, M.ones_zero]; rw [Bool.eq_iff_iff]; simp; omega), rfl⟩
theorem rup_any (n a : Nat) (hn : n < 18446744073709551616) (ha : a < 18446744073709551616) (w : World) :
    Calls Try.prog 17 #[.int .u64 n, .int .u64 a] w fun e w' => e = .returned (.tuple #[.int .u64 (M.upV n a : Nat), .bool (M.upB n a)]) ∧ w = w' := by
  by_cases hp : M.powB a = true
  · have h0 := M.powB_pos a hp
    have em : (n : Int) % (a : Int) = ((n % a : Nat) : Int) := by simp
    have hlt := Nat.mod_lt n h0
    generalize hr : n % a = r at em hlt
    have R := Lib.hid hr; clear hr
    by_cases hz : r = 0
    · subst hz
      go_enter Try.func17, Try.ntmps17
      go_wp2_with (go_at_call 22; refine (rpow_any _ ha _).mono ?_; rintro e w' ⟨rfl, rfl⟩)
      go_ret2
      exact ⟨ret2 (by simp [M.upV, hp, R.out]) (by simp [M.upB, hp, R.out]), rfl⟩
    · have es : (a : Int) - r = ((a - r : Nat) : Int) := by omega
      have ES := Lib.hid es; clear es
      go_enter Try.func17, Try.ntmps17
      go_wp2_with (go_at_call 22; refine (rpow_any _ ha _).mono ?_; rintro e w' ⟨rfl, rfl⟩)
      rw [ES.out]
      refine (rbadd_any _ _ hn (by omega) _).mono ?_
      rintro e w' ⟨rfl, rfl⟩
      go_wp2
      go_ret2
      exact ⟨ret2 (by simp [M.upV, hp, R.out, hz]) (by simp [M.upB, hp, R.out, hz]), rfl⟩
  · have hp' : M.powB a = false := by simpa using hp
    clear hp
    go_enter Try.func17, Try.ntmps17
    go_wp2_with (go_at_call 22; refine (rpow_any _ ha _).mono ?_; rintro e w' ⟨rfl, rfl⟩)
    go_ret2
    exact ⟨ret2 (by simp [M.upV, hp']) (by simp [M.upB, hp']), rfl⟩
end Go.Proofs.Ytmmcdnoedilefaa
