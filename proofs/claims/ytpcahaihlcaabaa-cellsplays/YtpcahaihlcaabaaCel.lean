/-
  What the small calls of cells come to, and Get, of any width and place.
-/
import Derived.Test.YtpcahaihlcaabaaRep
import Derived.Test.YtpcahaihlcaabaaBoth
namespace Go.Proofs.Ytpcahaihlcaabaa
open Go.ChangeShapes Go.WideShapes Go.ChangeAt Go.RowKit
set_option linter.unusedVariables false
set_option maxRecDepth 20000

/-- May a number of such a width stand at such a place? -/
def plB (a : Nat) (y : Int) : Bool := M.wide y && decide (a % y.toNat = 0)
theorem plB_cases {a : Nat} {y : Int} (h : plB a y = true) : ∃ k : Nat, y = k ∧ (k = 1 ∨ k = 2 ∨ k = 4 ∨ k = 8) ∧ a % k = 0 := by
  unfold plB at h
  rw [Bool.and_eq_true] at h
  obtain ⟨k, rfl, hk⟩ := M.wide_cases h.1
  exact ⟨k, rfl, hk, by simpa using h.2⟩
theorem plB_nat {a k : Nat} (hk : k = 1 ∨ k = 2 ∨ k = 4 ∨ k = 8) (h : a % k = 0) : plB a (k : Int) = true := by
  unfold plB
  rw [M.wide_nat hk]
  simpa using h
theorem fits_zero (y : Int) (w : World) : Calls Try.prog 22 #[.int .u64 0, .int .i64 y] w fun e w' => e = .returned (.bool (M.wide y)) ∧ w = w' := by
  have h := fits_any 0 y (by omega) w
  have e : fitsB 0 y = M.wide y := by
    have : 0 < 256 ^ y.toNat := Nat.pow_pos (by omega)
    unfold fitsB
    simp [this]
  rw [e] at h
  exact h
theorem placed_any (a : Nat) (y : Int) (ha : a < 18446744073709551616) (w : World) :
    Calls Try.prog 30 #[.int .u64 a, .int .i64 y] w fun e w' => e = .returned (.bool (plB a y)) ∧ w = w' := by
  by_cases hw : M.wide y = true
  · obtain ⟨k, rfl, hk⟩ := M.wide_cases hw
    rcases hk with rfl | rfl | rfl | rfl
    all_goals
      go_enter Try.func30, Try.ntmps30
      go_wp2_with (go_at_call 22; refine (fits_zero _ _).mono ?_; rintro e w' ⟨rfl, rfl⟩)
      go_ret
      refine ⟨retB ?_, rfl⟩
      rw [Bool.eq_iff_iff]
      simp [plB, M.wide]
      try omega
  · have hw' : M.wide y = false := by simpa using hw
    clear hw
    go_enter Try.func30, Try.ntmps30
    go_wp2_with (go_at_call 22; refine (fits_zero _ _).mono ?_; rintro e w' ⟨rfl, rfl⟩)
    go_ret
    exact ⟨retB (by simp [plB, hw']), rfl⟩

/-! What Get answers. -/
def gE (P a : Nat) (y : Int) : Nat := if plB a y = true then (if M.inB a y.toNat (P * 4096) = true then 0 else 3) else 1
def gV (P : Nat) (f : Nat → UInt8) (a : Nat) (y : Int) : Nat := if gE P a y = 0 then M.num (M.rd f a y.toNat) else 0
def gT (P a : Nat) (y : Int) : Nat := if gE P a y = 0 then M.touched a y.toNat else 0
theorem gE_ok {P a : Nat} {y : Int} (h : gE P a y = 0) : plB a y = true ∧ M.inB a y.toNat (P * 4096) = true := by
  unfold gE at h
  split at h
  · split at h
    · exact ⟨by assumption, by assumption⟩
    · cases h
  · cases h
theorem gE_of {P a : Nat} {y : Int} (h1 : plB a y = true) (h2 : M.inB a y.toNat (P * 4096) = true) : gE P a y = 0 := by unfold gE; rw [if_pos h1, if_pos h2]
theorem gE_cases (P a : Nat) (y : Int) : (plB a y = true ∧ M.inB a y.toNat (P * 4096) = true ∧ gE P a y = 0) ∨ (plB a y = true ∧ M.inB a y.toNat (P * 4096) = false ∧ gE P a y = 3) ∨ (plB a y = false ∧ gE P a y = 1) := by
  unfold gE
  by_cases h1 : plB a y = true
  · by_cases h2 : M.inB a y.toNat (P * 4096) = true
    · exact Or.inl ⟨h1, h2, by rw [if_pos h1, if_pos h2]⟩
    · exact Or.inr (Or.inl ⟨h1, by simpa using h2, by rw [if_pos h1, if_neg h2]⟩)
  · exact Or.inr (Or.inr ⟨by simpa using h1, by rw [if_neg h1]⟩)
theorem gT_le {P a : Nat} {y : Int} (hP : P ≤ 1048576) : gT P a y ≤ 1048578 := by
  unfold gT
  split
  · next h => exact touch_le (gE_ok h).2 hP
  · omega
theorem gV_lt (P : Nat) (f : Nat → UInt8) (a : Nat) (y : Int) : gV P f a y < 18446744073709551616 := by
  unfold gV
  split
  · next h =>
    obtain ⟨k, rfl, hk, _⟩ := plB_cases (gE_ok h).1
    have := M.num_lt (M.rd f a ((k : Int)).toNat)
    rw [M.rd_length] at this
    rcases hk with rfl | rfl | rfl | rfl <;> simp at this ⊢ <;> omega
  · omega

theorem cget_bad (p : Value) (a : Nat) (y : Int) (ha : a < 18446744073709551616) (h : plB a y = false) (w : World) :
    Calls Try.prog 14 #[p, .int .u64 a, .int .i64 y] w fun e w' => e = .returned (.tuple #[.int .u64 0, .int .i64 1]) ∧ w = w' := by
  go_enter Try.func14, Try.ntmps14
  go_wp2_with (go_at_call 30; refine (placed_any _ _ ha _).mono ?_; rintro e w' ⟨rfl, rfl⟩)
  go_ret2
  exact ⟨rfl, rfl⟩
theorem cget_nil (a k : Nat) (hk : k = 1 ∨ k = 2 ∨ k = 4 ∨ k = 8) (hd : a % k = 0) (ha : a < 18446744073709551616) (w : World) :
    Calls Try.prog 14 #[.pointer none, .int .u64 a, .int .i64 k] w fun e w' => e = .returned (.tuple #[.int .u64 0, .int .i64 3]) ∧ Below w.heap.size w w' := by
  have h := plB_nat hk hd
  have hk8 : k ≤ 8 := by omega
  have HK := Lib.hid hk
  clear hk hd
  go_enter Try.func14, Try.ntmps14
  go_wp2_with fail
  refine (placed_any a k ha _).mono ?_
  rintro e w' ⟨rfl, rfl⟩
  go_wp2_with fail
  refine (load_nil _ a k).mono ?_
  rintro e w1 ⟨rfl, b1⟩
  go_wp2_with fail
  go_ret2
  exact ⟨rfl, b1⟩
section
variable {w0 w w' : World} {s P T : Nat} {f : Nat → UInt8} {O O' : Nat → Prop}
theorem At.mono (h : At w0 w s P T f O) (hO : ∀ b, O b → O' b) (hl : ∀ b, O' b → b < w.heap.size) (ho : ∀ b, O' b → w0.heap.size ≤ b) : At w0 w s P T f O' := ⟨h.sp.mono hO hl, h.bel, ho⟩
theorem cget_range (h : At w0 w s P T f O) (a k : Nat) (hk : k = 1 ∨ k = 2 ∨ k = 4 ∨ k = 8) (hd : a % k = 0) (ha : a < 18446744073709551616) (hin : M.inB a k (P * 4096) = false) :
    Calls Try.prog 14 #[.pointer (some ⟨s, 0, none⟩), .int .u64 a, .int .i64 k] w fun e w' => e = .returned (.tuple #[.int .u64 0, .int .i64 3]) ∧ Below w.heap.size w w' := by
  have hp := plB_nat hk hd
  have hk8 : k ≤ 8 := by omega
  have HS := Lib.hid (And.intro h hin)
  clear hk hd h hin
  go_enter Try.func14, Try.ntmps14
  go_wp2_with fail
  refine (placed_any a k ha _).mono ?_
  rintro e w' ⟨rfl, rfl⟩
  go_wp2_with fail
  refine (load_range HS.out.1.sp a k ha (by omega) HS.out.2).mono ?_
  rintro e w1 ⟨rfl, b1⟩
  go_wp2_with fail
  go_ret2
  exact ⟨rfl, b1⟩
theorem getOf_all (l : List UInt8) (k : Nat) (hk : k = 1 ∨ k = 2 ∨ k = 4 ∨ k = 8) (hl : l.length = k) : getOf l 0 (k : Int) = M.num l := by
  unfold getOf
  have h : M.has l.length 0 (k : Int) = true := M.has_nat (z := l.length) (a := 0) (k := k) hk (by omega)
  rw [if_pos h]
  simp [M.seg, List.take_of_length_le (Nat.le_of_eq hl)]
theorem cget_ok (h : At w0 w s P T f O) (a k : Nat) (hk : k = 1 ∨ k = 2 ∨ k = 4 ∨ k = 8) (hd : a % k = 0) (hin : M.inB a k (P * 4096) = true) (ha : a < 18446744073709551616) (hT : T ≤ 1000000000000) :
    Calls Try.prog 14 #[.pointer (some ⟨s, 0, none⟩), .int .u64 a, .int .i64 k] w fun e w' => e = .returned (.tuple #[.int .u64 (M.num (M.rd f a k) : Nat), .int .i64 0]) ∧ At w0 w' s P (T + M.touched a k) f O ∧ Kept w w' O := by
  have hp := plB_nat hk hd
  have hk8 : k ≤ 8 := by omega
  have ht := touch_le hin h.sp.top.2
  have HS := Lib.hid (And.intro h hin)
  have HK := Lib.hid hk
  clear hk hd h hin
  go_enter Try.func14, Try.ntmps14
  go_wp2_with fail
  refine (placed_any a k ha _).mono ?_
  rintro e w' ⟨rfl, rfl⟩
  go_wp2_with fail
  refine (load_ok HS.out.1.sp a k ha HS.out.2 (by omega) (by omega)).mono ?_
  rintro e w1 ⟨g, rfl, h1, h2, o1, S1, k1⟩
  have H1 := Lib.hid (show At w0 w1 s P (T + M.touched a k) f O ∧ Kept w w1 O from ⟨HS.out.1.kept S1 k1 HS.out.1.old, k1⟩)
  have HO := Lib.hid o1
  clear S1 k1 o1 h1 h2
  go_wp2_with fail
  refine (get_of _ k k (M.rd f a k) 0 k (M.rd_length _ _ _).symm (by rw [M.rd_length]; omega) (by omega) _ HO.out.lies).mono ?_
  rintro e w2 ⟨rfl, rfl⟩
  have hg := getOf_all (M.rd f a k) k HK.out (M.rd_length _ _ _)
  rw [hg]
  clear hg
  go_wp2_with fail
  go_ret2
  exact ⟨rfl, H1.out⟩
theorem at_cget (h : At w0 w s P T f O) (a : Nat) (y : Int) (ha : a < 18446744073709551616) (hT : T ≤ 1000000000000) :
    Calls Try.prog 14 #[.pointer (some ⟨s, 0, none⟩), .int .u64 a, .int .i64 y] w fun e w' =>
      e = .returned (.tuple #[.int .u64 (gV P f a y : Nat), .int .i64 (gE P a y : Nat)]) ∧ At w0 w' s P (T + gT P a y) f O ∧ Kept w w' O := by
  rcases gE_cases P a y with ⟨h1, h2, h3⟩ | ⟨h1, h2, h3⟩ | ⟨h1, h3⟩
  · obtain ⟨k, rfl, hk, hd⟩ := plB_cases h1
    rw [Int.toNat_natCast] at h2
    refine (cget_ok h a k hk hd h2 ha hT).mono ?_
    rintro e w' ⟨rfl, q⟩
    unfold gV gT
    rw [h3, if_pos rfl, if_pos rfl, Int.toNat_natCast]
    exact ⟨rfl, q⟩
  · obtain ⟨k, rfl, hk, hd⟩ := plB_cases h1
    rw [Int.toNat_natCast] at h2
    refine (cget_range h a k hk hd ha h2).mono ?_
    rintro e w' ⟨rfl, b⟩
    unfold gV gT
    rw [h3, if_neg (by omega), if_neg (by omega)]
    exact ⟨rfl, h.same b, Kept.of_below b _⟩
  · refine (cget_bad _ a y ha h1 w).mono ?_
    rintro e w' ⟨rfl, rfl⟩
    unfold gV gT
    rw [h3, if_neg (by omega), if_neg (by omega)]
    exact ⟨rfl, h, Kept.refl _ _⟩
end
end Go.Proofs.Ytpcahaihlcaabaa
