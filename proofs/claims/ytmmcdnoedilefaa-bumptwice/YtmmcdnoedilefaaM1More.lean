/-
  More plain mathematics of layer 1: what is aligned, how many digits, how many pages. No program in sight.
-/
import Derived.Test.YtmmcdnoedilefaaM1
namespace Go.Proofs.Ytmmcdnoedilefaa.M

theorem up_false (n a : Nat) (ha : powB a = true) (h : upB n a = false) : upV n a = 0 ∧ 18446744073709551616 < n + a := by
  have hp := powB_pos a ha
  have hl := Nat.mod_lt n hp
  unfold upB at h
  rw [ha] at h
  simp only [Bool.true_and, Bool.or_eq_false_iff, beq_eq_false_iff_ne] at h
  obtain ⟨h1, h2⟩ := h
  unfold addB at h2
  have h2' : ¬ n + (a - n % a) < 18446744073709551616 := of_decide_eq_false h2
  refine ⟨?_, by omega⟩
  unfold upV
  rw [if_pos ha, if_neg h1]
  unfold addV
  rw [if_neg h2']

theorem up_true (n a : Nat) (ha : powB a = true) (h : upB n a = true) : upV n a % a = 0 ∧ n ≤ upV n a ∧ upV n a < n + a := by
  have hp := powB_pos a ha
  have hl := Nat.mod_lt n hp
  unfold upB at h
  rw [ha] at h
  simp only [Bool.true_and, Bool.or_eq_true, beq_iff_eq] at h
  unfold upV
  rw [if_pos ha]
  by_cases h1 : n % a = 0
  · rw [if_pos h1]; exact ⟨h1, by omega, by omega⟩
  · rw [if_neg h1]
    rcases h with h | h
    · exact absurd h h1
    · unfold addB at h
      have h2 := of_decide_eq_true h
      unfold addV
      rw [if_pos h2]
      refine ⟨?_, by omega, by omega⟩
      have e := Nat.div_add_mod n a
      have : n + (a - n % a) = a * (n / a + 1) := by rw [Nat.mul_add]; omega
      rw [this]; exact Nat.mul_mod_right _ _

theorem up_mult (x a : Nat) (ha : powB a = true) (h : x % a = 0) : upV x a = x ∧ upB x a = true := by
  unfold upV upB
  rw [if_pos ha, if_pos h, ha, h]
  exact ⟨rfl, rfl⟩

theorem pow_dvd (a b : Nat) (ha : powB a = true) (hb : powB b = true) (h : a ≤ b) : a ∣ b := by
  rw [powB_eq a ha, powB_eq b hb] at *
  generalize size a - 1 = i at *
  generalize size b - 1 = j at *
  have : i ≤ j := (Nat.pow_le_pow_iff_right (by decide)).1 h
  exact Nat.pow_dvd_pow 2 this

theorem least_mult (n a x y : Nat) (hx : x % a = 0) (hy : y % a = 0) (h1 : x < n + a) (h2 : n ≤ y) : x ≤ y := by
  have e1 := Nat.div_add_mod x a
  have e2 := Nat.div_add_mod y a
  by_cases h : x ≤ y
  · exact h
  · exfalso
    have hlt : a * (y / a) < a * (x / a) := by omega
    have h3 : y / a < x / a := Nat.lt_of_mul_lt_mul_left hlt
    have h4 : a * (y / a + 1) ≤ a * (x / a) := Nat.mul_le_mul_left a h3
    rw [Nat.mul_add] at h4
    omega

theorem up_mono (n a b : Nat) (ha : powB a = true) (hb : powB b = true) (h : a ≤ b) (h1 : upB n a = true) (h2 : upB n b = true) : upV n a ≤ upV n b := by
  obtain ⟨x1, x2, x3⟩ := up_true n a ha h1
  obtain ⟨y1, y2, y3⟩ := up_true n b hb h2
  refine least_mult n a _ _ x1 ?_ x3 y2
  obtain ⟨c, hc⟩ := pow_dvd a b ha hb h
  have := Nat.dvd_of_mod_eq_zero y1
  exact Nat.mod_eq_zero_of_dvd (Nat.dvd_trans ⟨c, hc⟩ this)

/-- What lies between two multiples goes up to the second one. -/
theorem up_step (x d a : Nat) (ha : powB a = true) (hx : x % a = 0) (h1 : 1 ≤ d) (h2 : d ≤ a) (hs : x + a < 18446744073709551616) : upV (x + d) a = x + a ∧ upB (x + d) a = true := by
  have hp := powB_pos a ha
  by_cases e : d = a
  · subst e
    exact up_mult (x + d) d ha (by rw [Nat.add_mod_right]; exact hx)
  · have hm : (x + d) % a = d := by rw [Nat.add_mod, hx, Nat.zero_add, Nat.mod_mod, Nat.mod_eq_of_lt (by omega)]
    unfold upV upB addB addV
    rw [if_pos ha, hm, ha, if_neg (by omega), if_pos (by omega)]
    refine ⟨by omega, ?_⟩
    rw [decide_eq_true (by omega)]
    simp

theorem up_small (n a : Nat) (ha : powB a = true) (hs : n + a ≤ 18446744073709551616) : upB n a = true := by
  by_cases h : upB n a = true
  · exact h
  · have := (up_false n a ha (by simpa using h)).2
    omega

theorem shift_one (n : Nat) (h : n ≠ 0) : n / 2 ^ (size n - 1) = 1 := by
  have h1 := (lt_pow_iff n (size n)).2 (Nat.le_refl _)
  have s := size_ge_one n h
  have h2 : ¬ n < 2 ^ (size n - 1) := by rw [lt_pow_iff]; omega
  have e : 2 ^ size n = 2 ^ (size n - 1) * 2 := by rw [← Nat.pow_succ]; congr 1; omega
  have hp := Nat.two_pow_pos (size n - 1)
  apply Nat.div_eq_of_lt_le <;> omega

theorem ceil_bounds (n : Nat) (_h : n ≠ 0) : size n - 1 ≤ size (n - 1) ∧ size (n - 1) ≤ size n := by
  constructor
  · have h1 := (lt_pow_iff (n - 1) (size (n - 1))).2 (Nat.le_refl _)
    have hp := Nat.two_pow_pos (size (n - 1))
    have : n < 2 ^ (size (n - 1) + 1) := by rw [Nat.pow_succ]; omega
    have := (lt_pow_iff _ _).1 this
    omega
  · have h1 := (lt_pow_iff n (size n)).2 (Nat.le_refl _)
    exact (lt_pow_iff _ _).1 (by omega)

theorem ceil_pow (n : Nat) (h : n ≠ 0) : (size (n - 1) = size n - 1) ↔ powB n = true := by
  have s := size_ge_one n h
  have b := ceil_bounds n h
  have h2 : ¬ n < 2 ^ (size n - 1) := by rw [lt_pow_iff]; omega
  constructor
  · intro e
    have h3 : n - 1 < 2 ^ (size n - 1) := by rw [lt_pow_iff]; omega
    have : n = 2 ^ (size n - 1) := by omega
    rw [this]; exact powB_two_pow _
  · intro hp
    have e := powB_eq n hp
    have h3 : n - 1 < 2 ^ (size n - 1) := by omega
    have := (lt_pow_iff _ _).1 h3
    omega

theorem inB_self (n : Nat) (h : n < 18446744073709551616) : inB n 0 n = true := by
  unfold inB addB addV; simp [h]
theorem inB_zero (n : Nat) (h : n < 18446744073709551616) : inB 0 n n = true := by
  unfold inB addB addV; simp [h]
theorem inB_above (n : Nat) : inB (n + 1) 0 n = false := by
  unfold inB addB addV
  by_cases h : n + 1 < 18446744073709551616
  · simp [h]
  · simp [h]
theorem inB_more (a b z m : Nat) (h : inB a b z = true) (hz : z ≤ m) : inB a b m = true := by
  unfold inB at *
  simp only [Bool.and_eq_true, decide_eq_true_eq] at *
  exact ⟨h.1, by omega⟩
theorem addB_comm (a b : Nat) : addB a b = addB b a := by unfold addB; rw [Nat.add_comm]
theorem addV_comm (a b : Nat) : addV a b = addV b a := by unfold addV; rw [Nat.add_comm]
theorem addV_eq (a b : Nat) (h : addB a b = true) : addV a b = a + b := by
  unfold addB at h; unfold addV; rw [if_pos (of_decide_eq_true h)]
theorem addB_lt (a b : Nat) (h : addB a b = true) : a + b < 18446744073709551616 := of_decide_eq_true h
theorem pgs_add (a b : Nat) : pgs a + pgs b = pgs (a + b) ∨ pgs a + pgs b = pgs (a + b) + 1 := by
  unfold pgs; split <;> split <;> split <;> omega
theorem pgs_zero (n : Nat) : pgs n = 0 ↔ n = 0 := by unfold pgs; split <;> omega
theorem pgs_bounds (n : Nat) (h : n ≠ 0) : (pgs n - 1) * 4096 < n ∧ n ≤ pgs n * 4096 := by unfold pgs; split <;> omega
end Go.Proofs.Ytmmcdnoedilefaa.M
