/-
  What each function of package bits, and of the document's answers to it, comes to: one contract a function.
-/
import Derived.Test.YtkpcdaofekndlaaRows
import Derived.Test.YtkpcdaofekndlaaMath
import Derived.WalkKit
import Derived.WalkSpells
import Derived.WalkLawsBesides
import Derived.ProofKit
import Derived.OpenShut
import Derived.BigQuiet
import Derived.Outline
import Derived.Lib.Hide
namespace Go.Proofs.Ytkpcdaofekndlaa
open Go.ChangeShapes Go.WideShapes Go.ChangeAt Go.RowKit
set_option linter.unusedVariables false

theorem ret1 {k : IntKind} {a b : Int} (h : a = b) : Ending.returned (.int k a) = .returned (.int k b) := by rw [h]
theorem retB {p q : Bool} (h : p = q) : Ending.returned (.bool p) = .returned (.bool q) := by rw [h]
theorem ret2 {k : IntKind} {a b : Int} {p q : Bool} (h : a = b) (g : p = q) : Ending.returned (.tuple #[.int k a, .bool p]) = .returned (.tuple #[.int k b, .bool q]) := by rw [h, g]
theorem wrapU (n : Int) : IntKind.u64.wrap n = n % 18446744073709551616 := IntKind.wrap_u64 n

theorem u64_nat {a : Int} (h : (Lit.int .u64 a).wf = true) : ∃ n : Nat, n < 18446744073709551616 ∧ a = n := by
  have := bounds_u64 h
  exact ⟨a.toNat, by omega, by omega⟩
theorem u32_nat {a : Int} (h : (Lit.int .u32 a).wf = true) : ∃ n : Nat, n < 4294967296 ∧ a = n := by
  have := bounds_u32 h
  exact ⟨a.toNat, by omega, by omega⟩
theorem u8_nat {a : Int} (h : (Lit.int .u8 a).wf = true) : ∃ n : Nat, n < 256 ∧ a = n := by
  have := bounds_u8 h
  exact ⟨a.toNat, by omega, by omega⟩

theorem half_any (n : Nat) (h : n < 18446744073709551616) (w : World) :
    Calls Try.prog 25 #[.int .u64 n] w fun e w' => e = .returned (.tuple #[.int .u64 ((n / 2 : Nat) : Int), .bool (n % 2 == 1)]) ∧ w = w' := by
  go_enter Try.func25, Try.ntmps25
  go_wp2
  go_ret2
  exact ⟨ret2 (by omega) (by rw [Bool.eq_iff_iff]; simp; omega), rfl⟩

theorem add_any (a b : Nat) (ha : a < 18446744073709551616) (hb : b < 18446744073709551616) (w : World) :
    Calls Try.prog 19 #[.int .u64 a, .int .u64 b] w fun e w' => e = .returned (.tuple #[.int .u64 (M.addV a b : Nat), .bool (M.addB a b)]) ∧ w = w' := by
  have hw := wrapU ((a : Int) + b)
  have H := Lib.hid hw; clear hw
  go_enter Try.func19, Try.ntmps19
  go_wp2
  · rename_i h
    go_ret2
    have := H.out
    have hlt : ¬ (a + b < 18446744073709551616) := by omega
    exact ⟨ret2 (by simp [M.addV, hlt]) (by simp [M.addB]; omega), rfl⟩
  · rename_i h
    go_ret2
    have := H.out
    have hlt : a + b < 18446744073709551616 := by omega
    exact ⟨ret2 (by simp [M.addV, hlt]; omega) (by simp [M.addB]; omega), rfl⟩

theorem radd_any (a b : Nat) (ha : a < 18446744073709551616) (hb : b < 18446744073709551616) (w : World) :
    Calls Try.prog 20 #[.int .u64 a, .int .u64 b] w fun e w' => e = .returned (.tuple #[.int .u64 (M.addV a b : Nat), .bool (M.addB a b)]) ∧ w = w' := by
  have hw := wrapU ((a : Int) + b)
  have H := Lib.hid hw; clear hw
  go_enter Try.func20, Try.ntmps20
  go_wp2
  · rename_i h
    go_ret2
    have := H.out
    have hlt : ¬ (a + b < 18446744073709551616) := by omega
    exact ⟨ret2 (by simp [M.addV, hlt]) (by simp [M.addB]; omega), rfl⟩
  · rename_i h
    go_ret2
    have := H.out
    have hlt : a + b < 18446744073709551616 := by omega
    exact ⟨ret2 (by simp [M.addV, hlt] <;> omega) (by simp [M.addB]; omega), rfl⟩

theorem in_any (a b z : Nat) (ha : a < 18446744073709551616) (hb : b < 18446744073709551616) (w : World) :
    Calls Try.prog 21 #[.int .u64 a, .int .u64 b, .int .u64 z] w fun e w' => e = .returned (.bool (M.inB a b z)) ∧ w = w' := by
  go_enter Try.func21, Try.ntmps21
  go_wp2_with (go_at_call 19; refine (add_any _ _ ha hb _).mono ?_; rintro e w' ⟨rfl, rfl⟩)
  all_goals go_ret
  all_goals exact ⟨retB (by simp [M.inB, *]), rfl⟩

theorem rin_any (a b z : Nat) (ha : a < 18446744073709551616) (hb : b < 18446744073709551616) (w : World) :
    Calls Try.prog 22 #[.int .u64 a, .int .u64 b, .int .u64 z] w fun e w' => e = .returned (.bool (M.inB a b z)) ∧ w = w' := by
  go_enter Try.func22, Try.ntmps22
  go_wp2_with (go_at_call 20; refine (radd_any _ _ ha hb _).mono ?_; rintro e w' ⟨rfl, rfl⟩)
  all_goals go_ret
  all_goals exact ⟨retB (by simp [M.inB, *]), rfl⟩

theorem pages_any (a : Nat) (ha : a < 18446744073709551616) (w : World) :
    Calls Try.prog 23 #[.int .u64 a] w fun e w' => e = .returned (.int .u64 (M.pgs a : Nat)) ∧ w = w' := by
  go_enter Try.func23, Try.ntmps23
  go_wp2
  all_goals rename_i h
  all_goals go_ret
  all_goals simp at h
  all_goals exact ⟨ret1 (by unfold M.pgs; split <;> omega), rfl⟩

theorem rpages_any (a : Nat) (ha : a < 18446744073709551616) (w : World) :
    Calls Try.prog 24 #[.int .u64 a] w fun e w' => e = .returned (.int .u64 (M.pgs a : Nat)) ∧ w = w' := by
  go_enter Try.func24, Try.ntmps24
  go_wp2
  all_goals rename_i h
  all_goals go_ret
  all_goals simp at h
  all_goals exact ⟨ret1 (by unfold M.pgs; split <;> omega), rfl⟩

theorem pow_any (a : Nat) (ha : a < 18446744073709551616) (w : World) :
    Calls Try.prog 11 #[.int .u64 a] w fun e w' => e = .returned (.bool (M.powB a)) ∧ w = w' := by
  go_enter Try.func11, Try.ntmps11
  go_wp2
  · rename_i h
    go_ret
    exact ⟨retB (by rw [h]; rfl), rfl⟩
  · rename_i h
    go_ret
    refine ⟨retB ?_, rfl⟩
    have e : (a : Int) - 1 = ((a - 1 : Nat) : Int) := by omega
    rw [e, bits_and_u64_nat a (a - 1) ha (by omega)]
    unfold M.powB
    rw [Bool.eq_iff_iff]; simp

theorem rlog_any (n : Nat) (h : n < 18446744073709551616) (w : World) :
    Calls Try.prog 14 #[.int .u64 n] w fun e w' => e = .returned (.int .i64 ((M.size n : Int) - 1)) ∧ w = w' := by
  have hs := M.size_le n h
  go_enter Try.func14, Try.ntmps14
  go_wp2
  go_loop [0, 3] (fun x k => ∃ m : Nat, m ≤ n ∧ M.size m ≤ M.size n ∧ x = .int .u64 m ∧ k = .int .i64 ((M.size n : Int) - M.size m - 1)) (fun x _ => (intOf x).toNat)
  case atStart => exact ⟨n, Nat.le_refl _, Nat.le_refl _, rfl, by go_num⟩
  case round =>
    obtain ⟨m, hm, hle, rfl, rfl⟩ := hrel
    by_cases h0 : 0 < m
    · have e := M.size_pos m (by omega)
      have E := Lib.hid e; clear e
      go_wp2_with (go_at_call 25; refine (half_any _ (by omega) _).mono ?_; rintro e w' ⟨rfl, rfl⟩)
      go_round
      case rel => exact ⟨m / 2, by omega, by have := E.out; omega, rfl, by have := E.out; go_num⟩
      case measure => simp [intOf]; omega
    · have e : m = 0 := by omega
      subst e
      go_wp2
      go_ret
      exact ⟨ret1 (by rw [M.size_zero]; omega), rfl⟩

theorem rpow_any (n : Nat) (h : n < 18446744073709551616) (w : World) :
    Calls Try.prog 12 #[.int .u64 n] w fun e w' => e = .returned (.bool (M.powB n)) ∧ w = w' := by
  have hs := M.size_le n h
  have ho := M.ones_le n
  go_enter Try.func12, Try.ntmps12
  go_wp2
  go_loop [0, 3, 4, 5] (fun x k _ _ => ∃ m : Nat, m ≤ n ∧ M.ones m ≤ M.ones n ∧ x = .int .u64 m ∧ k = .int .i64 ((M.ones n : Int) - M.ones m)) (fun x _ _ _ => (intOf x).toNat)
  case atStart => exact ⟨n, Nat.le_refl _, Nat.le_refl _, rfl, by go_num⟩
  case round =>
    obtain ⟨m, hm, hle, rfl, rfl⟩ := hrel
    by_cases h0 : 0 < m
    · have e := M.ones_pos m (by omega)
      have E := Lib.hid e; clear e
      by_cases p : m % 2 = 1
      · have p' : (m % 2 == 1) = true := by simp [p]
        have P := Lib.hid p; clear p
        go_wp2_with (go_at_call 25; refine (half_any _ (by omega) _).mono ?_; rintro e w' ⟨rfl, rfl⟩)
        go_round
        case rel => exact ⟨m / 2, by omega, by have := E.out; omega, rfl, by have := E.out; have := P.out; go_num⟩
        case measure => simp [intOf]; omega
      · have p' : (m % 2 == 1) = false := by simp [p]
        have P := Lib.hid p; clear p
        go_wp2_with (go_at_call 25; refine (half_any _ (by omega) _).mono ?_; rintro e w' ⟨rfl, rfl⟩)
        go_round
        case rel => exact ⟨m / 2, by omega, by have := E.out; omega, rfl, by have := E.out; have := P.out; go_num⟩
        case measure => simp [intOf]; omega
    · have e : m = 0 := by omega
      subst e
      go_wp2
      go_ret
      exact ⟨retB (by rw [← M.powB_ones, M.ones_zero]; rw [Bool.eq_iff_iff]; simp; omega), rfl⟩

theorem rceil_any (n : Nat) (h : n < 18446744073709551616) (w : World) :
    Calls Try.prog 16 #[.int .u64 n] w fun e w' => e = .returned (.int .i64 (M.size (n - 1) : Nat)) ∧ w = w' := by
  have hs := M.size_le (n - 1) (by omega)
  by_cases h2 : n < 2
  · have hz : M.size (n - 1) = 0 := by rw [show n - 1 = 0 by omega]; exact M.size_zero
    have H := Lib.hid hz; clear hz
    go_enter Try.func16, Try.ntmps16
    go_wp2
    go_ret
    exact ⟨ret1 (by rw [H.out]; rfl), rfl⟩
  · have e : (n : Int) - 1 = ((n - 1 : Nat) : Int) := by omega
    have H := Lib.hid e; clear e
    go_enter Try.func16, Try.ntmps16
    go_wp2_with fail
    rw [H.out]
    refine (rlog_any _ (by omega) _).mono ?_
    rintro e w' ⟨rfl, rfl⟩
    go_wp2
    go_ret
    exact ⟨ret1 (by omega), rfl⟩

theorem up_any (n a : Nat) (hn : n < 18446744073709551616) (ha : a < 18446744073709551616) (w : World) :
    Calls Try.prog 17 #[.int .u64 n, .int .u64 a] w fun e w' => e = .returned (.tuple #[.int .u64 (M.upV n a : Nat), .bool (M.upB n a)]) ∧ w = w' := by
  by_cases hp : M.powB a = true
  · have h0 := M.powB_pos a hp
    have em : bits .and .u64 (n : Int) ((a : Int) - 1) = ((n % a : Nat) : Int) := by
      rw [show (a : Int) - 1 = ((a - 1 : Nat) : Int) by omega, bits_and_u64_nat n (a - 1) hn (by omega), M.and_mask n a hp]
    have hlt := Nat.mod_lt n h0
    generalize hr : n % a = r at em hlt
    have R := Lib.hid hr; clear hr
    by_cases hz : r = 0
    · subst hz
      go_enter Try.func17, Try.ntmps17
      go_wp2_with (go_at_call 11; refine (pow_any _ ha _).mono ?_; rintro e w' ⟨rfl, rfl⟩)
      go_ret2
      exact ⟨ret2 (by simp [M.upV, hp, R.out]) (by simp [M.upB, hp, R.out]), rfl⟩
    · have es : (a : Int) - r = ((a - r : Nat) : Int) := by omega
      have ES := Lib.hid es; clear es
      go_enter Try.func17, Try.ntmps17
      go_wp2_with (go_at_call 11; refine (pow_any _ ha _).mono ?_; rintro e w' ⟨rfl, rfl⟩)
      rw [ES.out]
      refine (add_any _ _ hn (by omega) _).mono ?_
      rintro e w' ⟨rfl, rfl⟩
      go_wp2
      go_ret2
      exact ⟨ret2 (by simp [M.upV, hp, R.out, hz]) (by simp [M.upB, hp, R.out, hz]), rfl⟩
  · have hp' : M.powB a = false := by simpa using hp
    clear hp
    go_enter Try.func17, Try.ntmps17
    go_wp2_with (go_at_call 11; refine (pow_any _ ha _).mono ?_; rintro e w' ⟨rfl, rfl⟩)
    go_ret2
    exact ⟨ret2 (by simp [M.upV, hp']) (by simp [M.upB, hp']), rfl⟩

theorem rup_any (n a : Nat) (hn : n < 18446744073709551616) (ha : a < 18446744073709551616) (w : World) :
    Calls Try.prog 18 #[.int .u64 n, .int .u64 a] w fun e w' => e = .returned (.tuple #[.int .u64 (M.upV n a : Nat), .bool (M.upB n a)]) ∧ w = w' := by
  by_cases hp : M.powB a = true
  · have h0 := M.powB_pos a hp
    have em : (n : Int) % (a : Int) = ((n % a : Nat) : Int) := by simp
    have hlt := Nat.mod_lt n h0
    generalize hr : n % a = r at em hlt
    have R := Lib.hid hr; clear hr
    by_cases hz : r = 0
    · subst hz
      go_enter Try.func18, Try.ntmps18
      go_wp2_with (go_at_call 12; refine (rpow_any _ ha _).mono ?_; rintro e w' ⟨rfl, rfl⟩)
      go_ret2
      exact ⟨ret2 (by simp [M.upV, hp, R.out]) (by simp [M.upB, hp, R.out]), rfl⟩
    · have es : (a : Int) - r = ((a - r : Nat) : Int) := by omega
      have ES := Lib.hid es; clear es
      go_enter Try.func18, Try.ntmps18
      go_wp2_with (go_at_call 12; refine (rpow_any _ ha _).mono ?_; rintro e w' ⟨rfl, rfl⟩)
      rw [ES.out]
      refine (radd_any _ _ hn (by omega) _).mono ?_
      rintro e w' ⟨rfl, rfl⟩
      go_wp2
      go_ret2
      exact ⟨ret2 (by simp [M.upV, hp, R.out, hz]) (by simp [M.upB, hp, R.out, hz]), rfl⟩
  · have hp' : M.powB a = false := by simpa using hp
    clear hp
    go_enter Try.func18, Try.ntmps18
    go_wp2_with (go_at_call 12; refine (rpow_any _ ha _).mono ?_; rintro e w' ⟨rfl, rfl⟩)
    go_ret2
    exact ⟨ret2 (by simp [M.upV, hp']) (by simp [M.upB, hp']), rfl⟩

/-! The closures, and the least number for which one holds. -/
theorem grown_trans {a b c : World} (h : Grown a b) (g : Grown b c) : Grown a c := ⟨World.keptBut_trans h.1 g.1, fun x => (g.2.1 x).trans (h.2.1 x), Nat.le_trans h.2.2 g.2.2⟩
theorem grown_drewN {a b : World} (h : Grown a b) (n : Nat) : Grown a (b.drewN n) := h

theorem logc_any (n k : Nat) (hn : n < 18446744073709551616) (hk : k < 64) (w : World) (b : Nat) (hc : w.cell? ⟨b, 0, none⟩ = some (.int .u64 n)) :
    Calls Try.prog 27 #[.int .i64 k, .pointer (some ⟨b, 0, none⟩)] w fun e w' => e = .returned (.bool (decide (M.size n ≤ k))) ∧ w = w' := by
  go_enter Try.func27, Try.ntmps27
  go_wp2
  go_ret
  refine ⟨retB ?_, rfl⟩
  rw [show (n : Int) / 2 ^ k = ((n / 2 ^ k : Nat) : Int) by simp, Bool.eq_iff_iff]
  have := M.lt_pow_iff n k
  rw [decide_eq_true_iff, ← this, beq_iff_eq, ← Nat.div_eq_zero_iff_lt (Nat.two_pow_pos k)]
  omega

theorem ceilc_any (n k : Nat) (hn : n < 18446744073709551616) (hk : k < 64) (w : World) (b : Nat) (hc : w.cell? ⟨b, 0, none⟩ = some (.int .u64 n)) :
    Calls Try.prog 28 #[.int .i64 k, .pointer (some ⟨b, 0, none⟩)] w fun e w' => e = .returned (.bool (decide (M.size (n - 1) ≤ k))) ∧ ∃ m, w' = w.drewN m := by
  go_enter Try.func28, Try.ntmps28
  go_wp2
  go_quiet (fail)
  go_wp2
  go_ret
  refine ⟨retB ?_, _, rfl⟩
  have hp : 2 ^ k < 18446744073709551616 := Nat.pow_lt_pow_of_lt (by decide) hk
  have e : ((2 : Int) ^ k) = ((2 ^ k : Nat) : Int) := by simp
  rw [wrapU, e, show ((2 ^ k : Nat) : Int) % 18446744073709551616 = ((2 ^ k : Nat) : Int) by (generalize 2 ^ k = p at hp; omega), Bool.eq_iff_iff, decide_eq_true_iff, decide_eq_true_iff, ← M.le_pow_iff]
  omega

theorem least_log (n : Nat) (hn : n < 18446744073709551616) (w : World) (b : Nat) (hc : w.cell? ⟨b, 0, none⟩ = some (.int .u64 n)) :
    Calls Try.prog 26 #[.func (.func 27) #[] #[.pointer (some ⟨b, 0, none⟩)]] w fun e w' => e = .returned (.int .i64 (M.size n : Nat)) ∧ w = w' := by
  have hs := M.size_le n hn
  go_enter Try.func26, Try.ntmps26
  go_wp2_with fail
  go_loop [3, 4] (fun _ i => ∃ k : Nat, k ≤ 64 ∧ k ≤ M.size n ∧ i = .int .i64 k) (fun _ i => 64 - (intOf i).toNat)
  case atStart => exact ⟨0, by omega, by omega, rfl⟩
  case round =>
    obtain ⟨k, hk, hle, rfl⟩ := hrel
    by_cases hlt : k < 64
    · by_cases hz : M.size n ≤ k
      · go_wp2_with (go_at_call 27; refine (logc_any n k hn hlt _ b hc).mono ?_; rintro e w' ⟨rfl, rfl⟩)
        go_ret
        exact ⟨ret1 (by omega), rfl⟩
      · go_wp2_with (go_at_call 27; refine (logc_any n k hn hlt _ b hc).mono ?_; rintro e w' ⟨rfl, rfl⟩)
        go_round
        case rel => exact ⟨k + 1, by omega, by omega, by go_num⟩
        case measure => simp [intOf]; omega
    · go_wp2
      go_ret
      exact ⟨ret1 (by omega), rfl⟩

theorem least_ceil (n : Nat) (hn : n < 18446744073709551616) (w : World) (b : Nat) (hc : w.cell? ⟨b, 0, none⟩ = some (.int .u64 n)) :
    Calls Try.prog 26 #[.func (.func 28) #[] #[.pointer (some ⟨b, 0, none⟩)]] w fun e w' => e = .returned (.int .i64 (M.size (n - 1) : Nat)) ∧ ∃ m, w' = w.drewN m := by
  have hs := M.size_le (n - 1) (by omega)
  go_enter Try.func26, Try.ntmps26
  go_wp2_with fail
  go_loopw [3, 4] (fun _ i wx => ∃ k m : Nat, k ≤ 64 ∧ k ≤ M.size (n - 1) ∧ i = .int .i64 k ∧ wx = w.drewN m) (fun _ i _ => 64 - (intOf i).toNat)
  case atStart => exact ⟨0, 0, by omega, by omega, rfl, rfl⟩
  case round =>
    obtain ⟨k, m, hk, hle, rfl, rfl⟩ := hrel
    by_cases hlt : k < 64
    · have hc' : (w.drewN m).cell? ⟨b, 0, none⟩ = some (.int .u64 n) := hc
      by_cases hz : M.size (n - 1) ≤ k
      · go_wp2_with (go_at_call 28; refine (ceilc_any n k hn hlt _ b hc').mono ?_; rintro e w' ⟨rfl, m2, rfl⟩)
        go_ret
        exact ⟨ret1 (by omega), _, rfl⟩
      · go_wp2_with (go_at_call 28; refine (ceilc_any n k hn hlt _ b hc').mono ?_; rintro e w' ⟨rfl, m2, rfl⟩)
        go_roundw
        case rel => exact ⟨k + 1, _, by omega, by omega, by go_num, rfl⟩
        case measure => simp [intOf]; omega
    · go_wp2
      go_ret
      exact ⟨ret1 (by omega), _, rfl⟩

theorem log_any (n : Nat) (hn : n < 18446744073709551616) (w : World) :
    Calls Try.prog 13 #[.int .u64 n] w fun e w' => e = .returned (.int .i64 ((M.size n : Int) - 1)) ∧ Grown w w' := by
  have hs := M.size_le n hn
  go_enter Try.func13, Try.ntmps13
  go_wp2_with fail
  refine (least_log n hn _ _ (by simp [go_sem])).mono ?_
  rintro e w' ⟨rfl, rfl⟩
  go_wp2
  go_ret
  exact ⟨ret1 (by omega), (Grown.refl _).alloc _ _⟩

theorem ceil_any (n : Nat) (hn : n < 18446744073709551616) (w : World) :
    Calls Try.prog 15 #[.int .u64 n] w fun e w' => e = .returned (.int .i64 (M.size (n - 1) : Nat)) ∧ Grown w w' := by
  have hs := M.size_le (n - 1) (by omega)
  go_enter Try.func15, Try.ntmps15
  go_wp2_with fail
  refine (least_ceil n hn _ _ (by simp [go_sem])).mono ?_
  rintro e w' ⟨rfl, m, rfl⟩
  go_wp2
  go_ret
  exact ⟨ret1 (by omega), grown_drewN ((Grown.refl _).alloc _ _) _⟩

/-! The document's examples. -/
theorem size9 : M.size 9 = 4 := by simp [M.size]
theorem size8 : M.size (9 - 1) = 4 := by simp [M.size]
theorem ex_up (w : World) : Calls Try.prog 17 #[.int .u64 9, .int .u64 8] w fun e w' => e = .returned (.tuple #[.int .u64 16, .bool true]) ∧ w = w' :=
  (up_any 9 8 (by decide) (by decide) w).mono fun e w' ⟨he, hw⟩ => ⟨he.trans (ret2 (by decide) (by decide)), hw⟩
theorem ex_log (w : World) : Calls Try.prog 13 #[.int .u64 9] w fun e w' => e = .returned (.int .i64 3) ∧ Grown w w' :=
  (log_any 9 (by decide) w).mono fun e w' ⟨he, hw⟩ => ⟨he.trans (ret1 (by rw [size9]; rfl)), hw⟩
theorem ex_ceil (w : World) : Calls Try.prog 15 #[.int .u64 9] w fun e w' => e = .returned (.int .i64 4) ∧ Grown w w' :=
  (ceil_any 9 (by decide) w).mono fun e w' ⟨he, hw⟩ => ⟨he.trans (ret1 (by rw [size8]; rfl)), hw⟩
theorem ex_pages (w : World) : Calls Try.prog 23 #[.int .u64 4097] w fun e w' => e = .returned (.int .u64 2) ∧ w = w' :=
  (pages_any 4097 (by decide) w).mono fun e w' ⟨he, hw⟩ => ⟨he.trans (ret1 (by decide)), hw⟩
theorem ex_pow (w : World) : Calls Try.prog 11 #[.int .u64 64] w fun e w' => e = .returned (.bool true) ∧ w = w' :=
  (pow_any 64 (by decide) w).mono fun e w' ⟨he, hw⟩ => ⟨he.trans (retB (by decide)), hw⟩
theorem ex_pow0 (w : World) : Calls Try.prog 11 #[.int .u64 0] w fun e w' => e = .returned (.bool false) ∧ w = w' :=
  (pow_any 0 (by decide) w).mono fun e w' ⟨he, hw⟩ => ⟨he.trans (retB (by decide)), hw⟩
theorem ex_in (w : World) : Calls Try.prog 21 #[.int .u64 1, .int .u64 2, .int .u64 3] w fun e w' => e = .returned (.bool true) ∧ w = w' :=
  (in_any 1 2 3 (by decide) (by decide) w).mono fun e w' ⟨he, hw⟩ => ⟨he.trans (retB (by decide)), hw⟩

theorem awake_any (w : World) : Calls Try.prog 10 #[] w fun e w' => e = .returned (.bool true) ∧ Grown w w' := by
  go_enter Try.func10, Try.ntmps10
  go_wp2_with fail
  refine (ex_up _).mono ?_
  rintro e w' ⟨rfl, rfl⟩
  go_wp2_with fail
  refine (ex_log _).mono ?_
  rintro e w1 ⟨rfl, g1⟩
  have G1 := Lib.hid g1; clear g1
  go_wp2_with fail
  refine (ex_ceil _).mono ?_
  rintro e w2 ⟨rfl, g2⟩
  have G2 := Lib.hid g2; clear g2
  go_wp2_with fail
  refine (ex_pages _).mono ?_
  rintro e w' ⟨rfl, rfl⟩
  go_wp2_with fail
  refine (ex_pow _).mono ?_
  rintro e w' ⟨rfl, rfl⟩
  go_wp2_with fail
  refine (ex_pow0 _).mono ?_
  rintro e w' ⟨rfl, rfl⟩
  go_wp2_with fail
  refine (ex_in _).mono ?_
  rintro e w' ⟨rfl, rfl⟩
  go_wp2
  go_ret
  exact ⟨rfl, grown_trans G1.out G2.out⟩

end Go.Proofs.Ytkpcdaofekndlaa
