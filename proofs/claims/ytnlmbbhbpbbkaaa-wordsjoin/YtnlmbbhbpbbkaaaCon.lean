/-
  What each function of package words comes to: one contract a function.
-/
import Derived.Test.YtnlmbbhbpbbkaaaMem
namespace Go.Proofs.Ytnlmbbhbpbbkaaa
open Go.ChangeShapes Go.WideShapes Go.ChangeAt Go.RowKit
set_option linter.unusedVariables false

theorem isWidth_any (x : Int) (w : World) : Calls Try.prog 24 #[.int .i64 x] w fun e w' => e = .returned (.bool (M.wide x)) ∧ w = w' := by
  go_enter Try.func24, Try.ntmps24
  go_wp2
  all_goals go_ret
  all_goals exact ⟨retB (by simp [M.wide, Bool.or_assoc, *]), rfl⟩

theorem rWide_any (x : Int) (w : World) : Calls Try.prog 25 #[.int .i64 x] w fun e w' => e = .returned (.bool (M.wide x)) ∧ w = w' := by
  go_enter Try.func25, Try.ntmps25
  go_wp2
  all_goals go_ret
  all_goals exact ⟨retB (by simp [M.wide, Bool.or_assoc, *]), rfl⟩

theorem room_any (z : Nat) (x y : Int) (hz : z ≤ 140737488355328) (hx : -9223372036854775808 ≤ x ∧ x ≤ 9223372036854775807) (w : World) :
    Calls Try.prog 20 #[.int .i64 z, .int .i64 x, .int .i64 y] w fun e w' => e = .returned (.bool (M.has z x y)) ∧ w = w' := by
  by_cases hw : M.wide y = true
  · obtain ⟨k, rfl, hk⟩ := M.wide_cases hw
    have hk8 : k ≤ 8 := by omega
    have HK := Lib.hid hk; clear hk
    by_cases h0 : 0 ≤ x
    · go_enter Try.func20, Try.ntmps20
      go_wp2_with (go_at_call 24; refine (isWidth_any _ _).mono ?_; rintro e w' ⟨rfl, rfl⟩)
      all_goals go_ret
      all_goals exact ⟨retB (by simp only [M.has, hw, h0, decide_true, Bool.true_and]; rw [decide_eq_decide]; omega), rfl⟩
    · have hd : decide (0 ≤ x) = false := by simpa using h0
      go_enter Try.func20, Try.ntmps20
      go_wp2_with (go_at_call 24; refine (isWidth_any _ _).mono ?_; rintro e w' ⟨rfl, rfl⟩)
      all_goals go_ret
      all_goals exact ⟨retB (by simp [M.has, hd]), rfl⟩
  · have hw' : M.wide y = false := by simpa using hw
    clear hw
    go_enter Try.func20, Try.ntmps20
    go_wp2_with (go_at_call 24; refine (isWidth_any _ _).mono ?_; rintro e w' ⟨rfl, rfl⟩)
    all_goals go_ret
    all_goals exact ⟨retB (by simp [M.has, hw']), rfl⟩

theorem rHas_any (z : Nat) (x y : Int) (hz : z ≤ 140737488355328) (hx : -9223372036854775808 ≤ x ∧ x ≤ 9223372036854775807) (w : World) :
    Calls Try.prog 21 #[.int .i64 z, .int .i64 x, .int .i64 y] w fun e w' => e = .returned (.bool (M.has z x y)) ∧ w = w' := by
  by_cases hw : M.wide y = true
  · obtain ⟨k, rfl, hk⟩ := M.wide_cases hw
    have hk8 : k ≤ 8 := by omega
    have HK := Lib.hid hk; clear hk
    by_cases h0 : 0 ≤ x
    · by_cases h1 : x ≤ (z : Int)
      · go_enter Try.func21, Try.ntmps21
        go_wp2_with (go_at_call 25; refine (rWide_any _ _).mono ?_; rintro e w' ⟨rfl, rfl⟩)
        all_goals go_ret
        all_goals exact ⟨retB (by simp only [M.has, hw, h0, decide_true, Bool.true_and]; rw [decide_eq_decide]; omega), rfl⟩
      · have hd : decide (x ≤ (z : Int)) = false := by simpa using h1
        go_enter Try.func21, Try.ntmps21
        go_wp2_with (go_at_call 25; refine (rWide_any _ _).mono ?_; rintro e w' ⟨rfl, rfl⟩)
        all_goals go_ret
        all_goals exact ⟨retB (by simp only [M.has, hw, h0, decide_true, Bool.true_and]; symm; rw [decide_eq_false_iff_not]; omega), rfl⟩
    · have hd : decide (0 ≤ x) = false := by simpa using h0
      go_enter Try.func21, Try.ntmps21
      go_wp2_with (go_at_call 25; refine (rWide_any _ _).mono ?_; rintro e w' ⟨rfl, rfl⟩)
      all_goals go_ret
      all_goals exact ⟨retB (by simp [M.has, hd]), rfl⟩
  · have hw' : M.wide y = false := by simpa using hw
    clear hw
    go_enter Try.func21, Try.ntmps21
    go_wp2_with (go_at_call 25; refine (rWide_any _ _).mono ?_; rintro e w' ⟨rfl, rfl⟩)
    all_goals go_ret
    all_goals exact ⟨retB (by simp [M.has, hw']), rfl⟩

theorem two_pow_eight (j : Nat) : 2 ^ (8 * j) = 256 ^ j := by rw [Nat.pow_mul]
theorem or_byte (m b j : Nat) (hm : m < 256 ^ j) (hb : b < 256) (hj : j < 8) :
    bits .or .u64 (m : Int) (IntKind.u64.wrap ((b : Int) * 2 ^ (8 * j))) = ((m + 256 ^ j * b : Nat) : Int) := by
  have e1 : ((b : Int) * 2 ^ (8 * j)) = ((2 ^ (8 * j) * b : Nat) : Int) := by
    rw [Nat.mul_comm (2 ^ (8 * j)) b]; simp
  have hp : 256 ^ j * 256 ≤ 18446744073709551616 := by
    rw [← Nat.pow_succ]
    exact Nat.le_trans (Nat.pow_le_pow_right (by decide) (show j + 1 ≤ 8 by omega)) (by decide)
  have hq : 256 ^ j * b < 256 ^ j * 256 := (Nat.mul_lt_mul_left (Nat.pow_pos (by decide))).2 hb
  have hs : 256 ^ j * (b + 1) ≤ 256 ^ j * 256 := Nat.mul_le_mul_left _ (by omega)
  rw [Nat.mul_add] at hs
  have e2 : IntKind.u64.wrap ((b : Int) * 2 ^ (8 * j)) = ((2 ^ (8 * j) * b : Nat) : Int) := by
    rw [e1, wrapU, two_pow_eight]
    generalize 256 ^ j * b = q at *
    omega
  rw [e2, bits_or_u64_nat _ _ (by omega) (by rw [two_pow_eight]; omega), Nat.or_comm, ← Nat.two_pow_add_eq_or_of_lt (by rw [two_pow_eight]; exact hm), two_pow_eight, Nat.add_comm]
theorem low_byte (n j : Nat) : IntKind.u8.wrap ((n : Int) / 2 ^ (8 * j)) = ((UInt8.ofNat (n / 256 ^ j)).toNat : Int) := by
  have e : (n : Int) / 2 ^ (8 * j) = ((n / 256 ^ j : Nat) : Int) := by rw [← two_pow_eight]; simp
  rw [e, IntKind.wrap_u8, UInt8.toNat_ofNat']
  omega

theorem get_no (A : Option Addr) (l : List UInt8) (c : Nat) (x y : Int) (hz : l.length ≤ 140737488355328) (hx : -9223372036854775808 ≤ x ∧ x ≤ 9223372036854775807) (h : M.has l.length x y = false) (w : World) :
    Calls Try.prog 10 #[.slice A l.length c, .int .i64 x, .int .i64 y] w fun e w' => e = .returned (.tuple #[.int .u64 0, .bool false]) ∧ w = w' := by
  go_enter Try.func10, Try.ntmps10
  go_wp2_with (go_at_call 20; refine (room_any _ _ _ hz hx _).mono ?_; rintro e w' ⟨rfl, rfl⟩)
  go_ret2
  exact ⟨rfl, rfl⟩

set_option maxHeartbeats 400000 in
theorem get_yes (A : Option Addr) (l : List UInt8) (c a k : Nat) (hk : k = 1 ∨ k = 2 ∨ k = 4 ∨ k = 8) (hz : l.length ≤ 140737488355328) (h : a + k ≤ l.length) (w : World) (hl : Lies w A (u8s l)) :
    Calls Try.prog 10 #[.slice A l.length c, .int .i64 a, .int .i64 k] w fun e w' => e = .returned (.tuple #[.int .u64 (M.num (M.seg l a k) : Nat), .bool true]) ∧ w = w' := by
  have hh := M.has_nat hk h
  have hk8 : k ≤ 8 := by omega
  have hk0 : 0 < k := by omega
  obtain ⟨ad, rfl, hc⟩ := hl (by rw [u8s_length]; omega)
  have HC := Lib.hid hc; clear hc
  have HK := Lib.hid hk; clear hk
  go_enter Try.func10, Try.ntmps10
  go_wp2_with (go_at_call 20; refine (room_any _ _ _ hz (by omega) _).mono ?_; rintro e w' ⟨rfl, rfl⟩)
  go_loop [8, 17] (fun n i => ∃ j : Nat, j ≤ k ∧ i = .int .i64 j ∧ n = .int .u64 (M.num (M.seg l a j) : Nat)) (fun _ i => k - (intOf i).toNat)
  case atStart => exact ⟨0, by omega, rfl, by simp [M.seg, M.num]⟩
  case round =>
    obtain ⟨j, hj, rfl, rfl⟩ := hrel
    by_cases hlt : j < k
    · have hc := HC.out (a + j) (by rw [u8s_length]; omega)
      have hsn := M.num_seg_succ l a j (by omega)
      have hsl := M.num_seg_lt l a j (by omega)
      simp only [u8s, List.getElem_map] at hc
      generalize l[a + j] = b at hc hsn
      have hb := b.toNat_lt
      have HS := Lib.hid hsn; clear hsn
      have HL := Lib.hid hsl; clear hsl
      go_wp2
      go_round
      case rel => exact ⟨j + 1, by omega, by go_num, by rw [or_byte _ _ _ HL.out hb (by omega), HS.out]⟩
      case measure => simp [intOf]; omega
    · go_wp2
      go_ret2
      exact ⟨ret2 (by rw [show j = k by omega]) rfl, rfl⟩

theorem get_any (A : Option Addr) (l : List UInt8) (c : Nat) (x y : Int) (hz : l.length ≤ 140737488355328) (hx : -9223372036854775808 ≤ x ∧ x ≤ 9223372036854775807) (w : World) (hl : Lies w A (u8s l)) :
    Calls Try.prog 10 #[.slice A l.length c, .int .i64 x, .int .i64 y] w fun e w' =>
      e = .returned (.tuple #[.int .u64 (if M.has l.length x y = true then M.num (M.seg l x.toNat y.toNat) else 0 : Nat), .bool (M.has l.length x y)]) ∧ w = w' := by
  by_cases h : M.has l.length x y = true
  · obtain ⟨a, k, rfl, rfl, hk, hak⟩ := M.has_cases h
    rw [if_pos h, h]
    exact get_yes A l c a k hk hz hak w hl
  · have h' : M.has l.length x y = false := by simpa using h
    rw [if_neg h, h']
    exact get_no A l c x y hz hx h' w

theorem put_no (A : Option Addr) (z c : Nat) (x y : Int) (n : Nat) (hz : z ≤ 140737488355328) (hx : -9223372036854775808 ≤ x ∧ x ≤ 9223372036854775807) (h : M.has z x y = false) (w : World) :
    Calls Try.prog 13 #[.slice A z c, .int .i64 x, .int .i64 y, .int .u64 n] w fun e w' => e = .returned (.bool false) ∧ w = w' := by
  go_enter Try.func13, Try.ntmps13
  go_wp2_with (go_at_call 20; refine (room_any _ _ _ hz hx _).mono ?_; rintro e w' ⟨rfl, rfl⟩)
  go_ret
  exact ⟨rfl, rfl⟩

set_option maxHeartbeats 400000 in
theorem put_yes (g : Nat) (l : List UInt8) (c a k n : Nat) (hk : k = 1 ∨ k = 2 ∨ k = 4 ∨ k = 8) (hn : n < 18446744073709551616) (hz : l.length ≤ 140737488355328) (h : a + k ≤ l.length) (w : World) (hl : Own w g l) :
    Calls Try.prog 13 #[.slice (some ⟨g, 0, none⟩) l.length c, .int .i64 a, .int .i64 k, .int .u64 n] w fun e w' => e = .returned (.bool true) ∧ Own w' g (M.put l a k n) ∧ w.grownBy w' (some g) := by
  have hh := M.has_nat hk h
  have hk8 : k ≤ 8 := by omega
  have hk0 : 0 < k := by omega
  have HK := Lib.hid hk; clear hk
  go_enter Try.func13, Try.ntmps13
  go_wp2_with (go_at_call 20; refine (room_any _ _ _ hz (by omega) _).mono ?_; rintro e w' ⟨rfl, rfl⟩)
  go_loopw [17] (fun i wr => ∃ j : Nat, j ≤ k ∧ i = .int .i64 j ∧ Own wr g (M.put l a j n) ∧ w.grownBy wr (some g)) (fun i _ => k - (intOf i).toNat)
  case atStart => exact ⟨0, by omega, rfl, by rw [M.put_zero]; exact hl, World.grownBy.refl w _⟩
  case round =>
    obtain ⟨j, hj, rfl, ho, hg⟩ := hrel
    by_cases hlt : j < k
    · have hpl := M.put_length l a j n (by omega)
      have hc := ho.1 (a + j) (by omega)
      have hf := ho.2 (a + j) (by omega)
      have hs := ho.set (a + j) (by omega) (UInt8.ofNat (n / 256 ^ j))
      rw [← M.put_succ l a j n (by omega), ← low_byte] at hs
      have HS := Lib.hid hs; clear hs
      generalize (M.put l a j n)[a + j].toNat = b at hc
      clear hpl
      go_wp2
      go_roundw
      case rel => exact ⟨j + 1, by omega, by go_num, HS.out, only_setCell hg rfl _⟩
      case measure => simp [intOf]; omega
    · go_wp2
      go_ret
      exact ⟨rfl, by rw [show k = j by omega]; exact ho, hg⟩
end Go.Proofs.Ytnlmbbhbpbbkaaa
