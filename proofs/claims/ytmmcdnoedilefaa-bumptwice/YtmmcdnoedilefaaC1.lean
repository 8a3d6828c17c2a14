/-
  What each function of package bits comes to.
-/
import Derived.Test.YtmmcdnoedilefaaBase
import Derived.Test.YtmmcdnoedilefaaM1
namespace Go.Proofs.Ytmmcdnoedilefaa
open Go.ChangeShapes Go.WideShapes Go.ChangeAt Go.RowKit
set_option linter.unusedVariables false

theorem badd_any (a b : Nat) (ha : a < 18446744073709551616) (hb : b < 18446744073709551616) (w : World) :
    Calls Try.prog 20 #[.int .u64 a, .int .u64 b] w fun e w' => e = .returned (.tuple #[.int .u64 (M.addV a b : Nat), .bool (M.addB a b)]) ∧ w = w' := by
  have hw := wrapU ((a : Int) + b)
  have H := Lib.hid hw; clear hw
  go_enter Try.func20, Try.ntmps20
  go_wp2
  · rename_i h
    go_ret2
    have := H.out
    have hlt : ¬ (a + b < 18446744073709551616) := by omega
    exact ⟨ret2 (by simp [M.addV, hlt]) (by simp [M.addB]; omega), rfl⟩
  · rename_i h
    go_ret2
    have := H.out
    have hlt : a + b < 18446744073709551616 := by omega
    exact ⟨ret2 (by simp [M.addV, hlt]; omega) (by simp [M.addB]; omega), rfl⟩
theorem bin_any (a b z : Nat) (ha : a < 18446744073709551616) (hb : b < 18446744073709551616) (w : World) :
    Calls Try.prog 21 #[.int .u64 a, .int .u64 b, .int .u64 z] w fun e w' => e = .returned (.bool (M.inB a b z)) ∧ w = w' := by
  go_enter Try.func21, Try.ntmps21
  go_wp2_with (go_at_call 20; refine (badd_any _ _ ha hb _).mono ?_; rintro e w' ⟨rfl, rfl⟩)
  all_goals go_ret
  all_goals exact ⟨retB (by simp [M.inB, *]), rfl⟩
theorem pow_any (a : Nat) (ha : a < 18446744073709551616) (w : World) :
    Calls Try.prog 19 #[.int .u64 a] w fun e w' => e = .returned (.bool (M.powB a)) ∧ w = w' := by
  go_enter Try.func19, Try.ntmps19
  go_wp2
  · rename_i h
    go_ret
    exact ⟨retB (by rw [h]; rfl), rfl⟩
  · rename_i h
    go_ret
    refine ⟨retB ?_, rfl⟩
    have e : (a : Int) - 1 = ((a - 1 : Nat) : Int) := by omega
    rw [e, bits_and_u64_nat a (a - 1) ha (by omega)]
    unfold M.powB
    rw [Bool.eq_iff_iff]; simp
theorem up_any (n a : Nat) (hn : n < 18446744073709551616) (ha : a < 18446744073709551616) (w : World) :
    Calls Try.prog 15 #[.int .u64 n, .int .u64 a] w fun e w' => e = .returned (.tuple #[.int .u64 (M.upV n a : Nat), .bool (M.upB n a)]) ∧ w = w' := by
  by_cases hp : M.powB a = true
  · have h0 := M.powB_pos a hp
    have em : bits .and .u64 (n : Int) ((a : Int) - 1) = ((n % a : Nat) : Int) := by
      rw [show (a : Int) - 1 = ((a - 1 : Nat) : Int) by omega, bits_and_u64_nat n (a - 1) hn (by omega), M.and_mask n a hp]
    have hlt := Nat.mod_lt n h0
    generalize hr : n % a = r at em hlt
    have R := Lib.hid hr; clear hr
    by_cases hz : r = 0
    · subst hz
      go_enter Try.func15, Try.ntmps15
      go_wp2_with (go_at_call 19; refine (pow_any _ ha _).mono ?_; rintro e w' ⟨rfl, rfl⟩)
      go_ret2
      exact ⟨ret2 (by simp [M.upV, hp, R.out]) (by simp [M.upB, hp, R.out]), rfl⟩
    · have es : (a : Int) - r = ((a - r : Nat) : Int) := by omega
      have ES := Lib.hid es; clear es
      go_enter Try.func15, Try.ntmps15
      go_wp2_with (go_at_call 19; refine (pow_any _ ha _).mono ?_; rintro e w' ⟨rfl, rfl⟩)
      rw [ES.out]
      refine (badd_any _ _ hn (by omega) _).mono ?_
      rintro e w' ⟨rfl, rfl⟩
      go_wp2
      go_ret2
      exact ⟨ret2 (by simp [M.upV, hp, R.out, hz]) (by simp [M.upB, hp, R.out, hz]), rfl⟩
  · have hp' : M.powB a = false := by simpa using hp
    clear hp
    go_enter Try.func15, Try.ntmps15
    go_wp2_with (go_at_call 19; refine (pow_any _ ha _).mono ?_; rintro e w' ⟨rfl, rfl⟩)
    go_ret2
    exact ⟨ret2 (by simp [M.upV, hp']) (by simp [M.upB, hp']), rfl⟩
theorem up_at {i j : Int} (n a x : Nat) (p : Bool) (ei : i = n) (ej : j = a) (hn : n < 18446744073709551616) (ha : a < 18446744073709551616) (ex : M.upV n a = x) (ep : M.upB n a = p) (w : World) :
    Calls Try.prog 15 #[.int .u64 i, .int .u64 j] w fun e w' => e = .returned (.tuple #[.int .u64 x, .bool p]) ∧ w = w' := by
  subst ei ej ex ep; exact up_any n a hn ha w
theorem add_at {i j : Int} (n a x : Nat) (p : Bool) (ei : i = n) (ej : j = a) (hn : n < 18446744073709551616) (ha : a < 18446744073709551616) (ex : M.addV n a = x) (ep : M.addB n a = p) (w : World) :
    Calls Try.prog 20 #[.int .u64 i, .int .u64 j] w fun e w' => e = .returned (.tuple #[.int .u64 x, .bool p]) ∧ w = w' := by
  subst ei ej ex ep; exact badd_any n a hn ha w
theorem in_at {i j l : Int} (n a z : Nat) (p : Bool) (ei : i = n) (ej : j = a) (el : l = z) (hn : n < 18446744073709551616) (ha : a < 18446744073709551616) (ep : M.inB n a z = p) (w : World) :
    Calls Try.prog 21 #[.int .u64 i, .int .u64 j, .int .u64 l] w fun e w' => e = .returned (.bool p) ∧ w = w' := by
  subst ei ej el ep; exact bin_any n a z hn ha w
theorem pow_at {i : Int} (n : Nat) (p : Bool) (ei : i = n) (hn : n < 18446744073709551616) (ex : M.powB n = p) (w : World) :
    Calls Try.prog 19 #[.int .u64 i] w fun e w' => e = .returned (.bool p) ∧ w = w' := by
  subst ei ex; exact pow_any n hn w
end Go.Proofs.Ytmmcdnoedilefaa
