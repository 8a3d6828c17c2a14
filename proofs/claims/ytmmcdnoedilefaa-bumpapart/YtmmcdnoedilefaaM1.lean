/-
  Plain mathematics of powers of two and of sums below 2^64, over Nat: no program in sight.
-/
namespace Go.Proofs.Ytmmcdnoedilefaa.M

/-- How many binary digits a number has. -/
def size (n : Nat) : Nat := if h : n = 0 then 0 else size (n / 2) + 1
termination_by n
decreasing_by omega

/-- How many of its binary digits are one. -/
def ones (n : Nat) : Nat := if h : n = 0 then 0 else ones (n / 2) + n % 2
termination_by n
decreasing_by omega

def powB (n : Nat) : Bool := n != 0 && (n &&& (n - 1)) == 0
def addB (a b : Nat) : Bool := decide (a + b < 18446744073709551616)
def addV (a b : Nat) : Nat := if a + b < 18446744073709551616 then a + b else 0
def upB (n a : Nat) : Bool := powB a && (n % a == 0 || addB n (a - n % a))
def upV (n a : Nat) : Nat := if powB a = true then (if n % a = 0 then n else addV n (a - n % a)) else 0
def inB (s n z : Nat) : Bool := addB s n && decide (addV s n ≤ z)
def pgs (n : Nat) : Nat := if n % 4096 = 0 then n / 4096 else n / 4096 + 1

theorem size_zero : size 0 = 0 := by rw [size]; simp
theorem size_pos (n : Nat) (h : n ≠ 0) : size n = size (n / 2) + 1 := by rw [size]; simp [h]
theorem ones_zero : ones 0 = 0 := by rw [ones]; simp
theorem ones_pos (n : Nat) (h : n ≠ 0) : ones n = ones (n / 2) + n % 2 := by rw [ones]; simp [h]

theorem lt_pow_iff (n : Nat) : ∀ k, n < 2 ^ k ↔ size n ≤ k := by
  induction n using Nat.strongRecOn with
  | _ n ih =>
    intro k
    by_cases h : n = 0
    · subst h; rw [size_zero]; simp [Nat.two_pow_pos]
    · rw [size_pos n h]
      cases k with
      | zero => simp; omega
      | succ k =>
        have := ih (n / 2) (by omega) k
        rw [Nat.pow_succ]
        omega

theorem size_le (n : Nat) (h : n < 18446744073709551616) : size n ≤ 64 := (lt_pow_iff n 64).1 h
theorem size_ge_one (n : Nat) (h : n ≠ 0) : 1 ≤ size n := by rw [size_pos n h]; omega
theorem le_pow_iff (n k : Nat) : n ≤ 2 ^ k ↔ size (n - 1) ≤ k := by
  rw [← lt_pow_iff]
  have := Nat.two_pow_pos k
  omega

theorem ones_le (n : Nat) : ones n ≤ size n := by
  induction n using Nat.strongRecOn with
  | _ n ih =>
    by_cases h : n = 0
    · subst h; rw [ones_zero]; omega
    · rw [ones_pos n h, size_pos n h]
      have := ih (n / 2) (by omega)
      omega
theorem ones_eq_zero (n : Nat) : ones n = 0 ↔ n = 0 := by
  induction n using Nat.strongRecOn with
  | _ n ih =>
    by_cases h : n = 0
    · subst h; simp [ones_zero]
    · rw [ones_pos n h]
      have := ih (n / 2) (by omega)
      omega

theorem and_even (m k : Nat) : (2 * m) &&& (2 * k + 1) = 2 * (m &&& k) := by
  apply Nat.eq_of_testBit_eq
  intro i
  cases i with
  | zero => simp
  | succ i => rw [Nat.testBit_and, Nat.testBit_succ, Nat.testBit_succ, Nat.testBit_succ, show 2 * m / 2 = m by omega, show (2 * k + 1) / 2 = k by omega, show 2 * (m &&& k) / 2 = m &&& k by omega, Nat.testBit_and]
theorem and_odd (m k : Nat) : (2 * m + 1) &&& (2 * k) = 2 * (m &&& k) := by
  rw [Nat.and_comm, and_even, Nat.and_comm]

theorem pow_iff_ones (n : Nat) : (n ≠ 0 ∧ n &&& (n - 1) = 0) ↔ ones n = 1 := by
  induction n using Nat.strongRecOn with
  | _ n ih =>
    by_cases h : n = 0
    · subst h; simp [ones_zero]
    · rw [ones_pos n h]
      have i := ih (n / 2) (by omega)
      have z := ones_eq_zero (n / 2)
      by_cases p : n % 2 = 0
      · have e1 : n = 2 * (n / 2) := by omega
        have e2 : n - 1 = 2 * (n / 2 - 1) + 1 := by omega
        have e3 : n &&& (n - 1) = 2 * (n / 2 &&& (n / 2 - 1)) := by
          rw [e2]; conv => lhs; lhs; rw [e1]
          exact and_even _ _
        rw [e3, p]
        constructor
        · rintro ⟨_, h2⟩; exact i.1 ⟨by omega, by omega⟩
        · intro h2; exact ⟨h, by have := (i.2 h2).2; omega⟩
      · have e1 : n = 2 * (n / 2) + 1 := by omega
        have e2 : n - 1 = 2 * (n / 2) := by omega
        have e3 : n &&& (n - 1) = 2 * (n / 2) := by
          rw [e2]; conv => lhs; lhs; rw [e1]
          rw [and_odd, Nat.and_self]
        rw [e3, show n % 2 = 1 by omega]
        omega

theorem powB_ones (n : Nat) : (ones n == 1) = powB n := by
  have := pow_iff_ones n
  unfold powB
  rw [Bool.eq_iff_iff]
  simp only [beq_iff_eq, Bool.and_eq_true, bne_iff_ne]
  exact this.symm

theorem ones_two_pow (n : Nat) : ones n = 1 → n = 2 ^ (size n - 1) := by
  induction n using Nat.strongRecOn with
  | _ n ih =>
    by_cases h : n = 0
    · subst h; simp [ones_zero]
    · rw [ones_pos n h, size_pos n h]
      intro h1
      by_cases p : n % 2 = 0
      · have e := ih (n / 2) (by omega) (by omega)
        have hz : n / 2 ≠ 0 := by intro h0; rw [h0, ones_zero] at h1; omega
        have s := size_ge_one (n / 2) hz
        have : 2 ^ (size (n / 2) + 1 - 1) = 2 * 2 ^ (size (n / 2) - 1) := by
          rw [Nat.add_sub_cancel, Nat.mul_comm, ← Nat.pow_succ]; congr 1; omega
        omega
      · have z := ones_eq_zero (n / 2)
        have : n / 2 = 0 := by omega
        rw [this, size_zero]; simp; omega
theorem powB_eq (a : Nat) (h : powB a = true) : a = 2 ^ (size a - 1) := ones_two_pow a (by have := powB_ones a; rw [h] at this; simpa using this)
theorem powB_pos (a : Nat) (h : powB a = true) : 0 < a := by unfold powB at h; simp at h; omega
theorem powB_two_pow (k : Nat) : powB (2 ^ k) = true := by
  rw [← powB_ones]
  induction k with
  | zero => rw [ones_pos 1 (by decide)]; simp [ones_zero]
  | succ k ih =>
    have hp : 2 ^ (k + 1) = 2 * 2 ^ k := by rw [Nat.pow_succ]; omega
    have := Nat.two_pow_pos k
    rw [ones_pos _ (by omega), hp, show 2 * 2 ^ k / 2 = 2 ^ k by omega, show 2 * 2 ^ k % 2 = 0 by omega]
    simpa using ih
theorem and_mask (n a : Nat) (h : powB a = true) : n &&& (a - 1) = n % a := by
  rw [powB_eq a h]; exact Nat.and_two_pow_sub_one_eq_mod _ _

theorem addV_lt (a b : Nat) : addV a b < 18446744073709551616 := by unfold addV; split <;> omega
theorem upV_lt (n a : Nat) (h : n < 18446744073709551616) : upV n a < 18446744073709551616 := by
  unfold upV
  split
  · split
    · exact h
    · exact addV_lt _ _
  · decide
theorem pgs_le (n : Nat) (h : n < 18446744073709551616) : pgs n ≤ 4503599627370496 := by unfold pgs; split <;> omega
end Go.Proofs.Ytmmcdnoedilefaa.M
