/-
  The document's answers for layer 3: the small functions.
-/
import Derived.Test.YtacognejefeboaaA3
import Derived.Deep.DeepCutAuto
import Derived.Deep.Slices
import Derived.Deep.Fields
import Derived.Deep.AppendLies
import Derived.Deep.RegionHeld3
namespace Go.Proofs.Ytacognejefeboaa
open Go.ChangeShapes Go.WideShapes Go.ChangeAt Go.RowKit
set_option linter.unusedVariables false
set_option maxRecDepth 20000

theorem radd_any (a b : Nat) (ha : a < 18446744073709551616) (hb : b < 18446744073709551616) (w : World) :
    Calls Try.prog 66 #[.int .u64 a, .int .u64 b] w fun e w' => e = .returned (.tuple #[.int .u64 (M.addV a b : Nat), .bool (M.addB a b)]) ∧ w = w' := by
  have hw := wrapU ((a : Int) + b)
  have H := Lib.hid hw; clear hw
  go_enter Try.func66, Try.ntmps66
  go_wp2
  · rename_i h
    go_ret2
    have := H.out
    have hlt : ¬ (a + b < 18446744073709551616) := by omega
    exact ⟨ret2 (by simp [M.addV, hlt]) (by simp [M.addB]; omega), rfl⟩
  · rename_i h
    go_ret2
    have := H.out
    have hlt : a + b < 18446744073709551616 := by omega
    exact ⟨ret2 (by simp [M.addV, hlt] <;> omega) (by simp [M.addB]; omega), rfl⟩
theorem rin1_any (a b z : Nat) (ha : a < 18446744073709551616) (hb : b < 18446744073709551616) (w : World) :
    Calls Try.prog 56 #[.int .u64 a, .int .u64 b, .int .u64 z] w fun e w' => e = .returned (.bool (M.inB a b z)) ∧ w = w' := by
  go_enter Try.func56, Try.ntmps56
  go_wp2_with (go_at_call 66; refine (radd_any _ _ ha hb _).mono ?_; rintro e w' ⟨rfl, rfl⟩)
  all_goals go_ret
  all_goals exact ⟨retB (by simp [M.inB, *]), rfl⟩

/-- The document's space, as a value. -/
abbrev refV (P : Nat) (A : Option Addr) (n c T : Nat) : Value := .agg #[.int .i64 (P : Int), .slice A n c, .int .i64 (T : Int)]
theorem rsize_any (w : World) (P : Nat) (A : Option Addr) (n c T : Nat) (hP : P ≤ 1048576) :
    Calls Try.prog 57 #[refV P A n c T] w fun e w' => e = .returned (.int .u64 ((P * 4096 : Nat) : Int)) ∧ Below w.heap.size w w' := by
  go_enter Try.func57, Try.ntmps57
  go_wp2
  go_ret
  exact ⟨ret1 (by omega), (Below.refl _ _).alloc (Nat.le_refl _) _⟩
theorem rin_any (w : World) (P : Nat) (A : Option Addr) (n c T : Nat) (hP : P ≤ 1048576) (a k : Nat) (ha : a < 18446744073709551616) (hk : k < 18446744073709551616) :
    Calls Try.prog 38 #[refV P A n c T, .int .u64 a, .int .u64 k] w fun e w' => e = .returned (.bool (M.inB a k (P * 4096))) ∧ Below w.heap.size w w' := by
  go_enter Try.func38, Try.ntmps38
  go_wp2_with fail
  refine (rsize_any _ P A n c T hP).mono ?_
  rintro e w1 ⟨rfl, b1⟩
  go_wp2_with fail
  refine (rin1_any _ _ _ ha hk _).mono ?_
  rintro e w' ⟨rfl, rfl⟩
  go_wp2
  go_ret
  exact ⟨rfl, below_call ((Below.refl _ _).alloc (Nat.le_refl _) _) b1⟩
theorem rtouched_any (a n : Nat) (h : a + n ≤ 4294967296) (w : World) :
    Calls Try.prog 40 #[.int .u64 a, .int .u64 n] w fun e w' => e = .returned (.int .i64 (M.touched a n : Nat)) ∧ w = w' := by
  by_cases h0 : n = 0
  · subst h0
    go_enter Try.func40, Try.ntmps40
    go_wp2
    go_ret
    exact ⟨rfl, rfl⟩
  · have i0 : ¬ ((n : Int) = 0) := by omega
    have h1 : 0 < n := by omega
    go_enter Try.func40, Try.ntmps40
    go_wp2
    go_ret
    refine ⟨ret1 ?_, rfl⟩
    unfold M.touched
    rw [if_neg h0]
    have e1 : ((a : Int) + n - 1) / 4096 = (((a + n - 1) / 4096 : Nat) : Int) := by omega
    omega
theorem rnew_any (x : Int) (P : Nat) (hP : (P : Int) = min (max x 1) 1048576) (w : World) :
    Calls Try.prog 11 #[.int .i64 x] w fun e w' => e = .returned (refV P none 0 0 0) ∧ Below w.heap.size w w' := by
  have HP := Lib.hid hP; clear hP
  go_enter Try.func11, Try.ntmps11
  go_wp2
  · refine bodyPost_ret (v := .agg #[.int .i64 1, .slice none 0 0, .int .i64 0]) ?_ rfl ?_
    · simp [results, go_sem]
    · have hP := HP.out
      have e : (P : Int) = 1 := by omega
      exact ⟨by rw [refV, e]; rfl, (Below.refl _ _).alloc (Nat.le_refl _) _⟩
  · refine bodyPost_ret (v := .agg #[.int .i64 1048576, .slice none 0 0, .int .i64 0]) ?_ rfl ?_
    · simp [results, go_sem]
    · have hP := HP.out
      have e : (P : Int) = 1048576 := by omega
      exact ⟨by rw [refV, e]; rfl, (Below.refl _ _).alloc (Nat.le_refl _) _⟩
  · refine bodyPost_ret (v := .agg #[.int .i64 x, .slice none 0 0, .int .i64 0]) ?_ rfl ?_
    · simp [results, go_sem]
    · have hP := HP.out
      have e : (P : Int) = x := by omega
      exact ⟨by rw [refV, e]; rfl, (Below.refl _ _).alloc (Nat.le_refl _) _⟩
end Go.Proofs.Ytacognejefeboaa
