/-
  Plain mathematics of handles, as numbers: no program in sight.
-/
import Derived.Test.YtbkdlblpoohliaaBase
namespace Go.Proofs.Ytbkdlblpoohliaa.M

/-- Whether a number may be written in so many bits. -/
def hfB (n : Int) (b : Nat) : Bool := decide (0 ≤ n) && decide (n < (2 ^ b : Nat))
def hpB (k s g : Int) : Bool := !(k == 0) && hfB k 2 && hfB s 32 && hfB g 30
def hpV (k s g : Int) : Int := if hpB k s g = true then k * 4611686018427387904 + g * 4294967296 + s else 0
def hnB (g : Int) : Bool := hfB g 30 && hfB (g + 1) 30
def hnV (g : Int) : Int := if hnB g = true then g + 1 else 0
def huB (h : Nat) : Bool := decide (4611686018427387904 ≤ h)
def huK (h : Nat) : Nat := h / 4611686018427387904
def huS (h : Nat) : Nat := if huB h = true then h % 4294967296 else 0
def huG (h : Nat) : Nat := if huB h = true then h / 4294967296 % 1073741824 else 0

theorem hfB_2 (n : Int) : hfB n 2 = (decide (0 ≤ n) && decide (n < 4)) := rfl
theorem hfB_32 (n : Int) : hfB n 32 = (decide (0 ≤ n) && decide (n < 4294967296)) := rfl
theorem hfB_30 (n : Int) : hfB n 30 = (decide (0 ≤ n) && decide (n < 1073741824)) := rfl
theorem hfB_iff2 (n : Int) : hfB n 2 = true ↔ 0 ≤ n ∧ n < 4 := by rw [hfB_2]; simp
theorem hfB_iff32 (n : Int) : hfB n 32 = true ↔ 0 ≤ n ∧ n < 4294967296 := by rw [hfB_32]; simp
theorem hfB_iff30 (n : Int) : hfB n 30 = true ↔ 0 ≤ n ∧ n < 1073741824 := by rw [hfB_30]; simp
theorem hpB_iff (k s g : Int) : hpB k s g = true ↔ 1 ≤ k ∧ k ≤ 3 ∧ 0 ≤ s ∧ s < 4294967296 ∧ 0 ≤ g ∧ g < 1073741824 := by
  unfold hpB
  simp only [Bool.and_eq_true, hfB_iff2, hfB_iff32, hfB_iff30, Bool.not_eq_true', beq_eq_false_iff_ne]
  omega
theorem hnB_iff (g : Int) : hnB g = true ↔ 0 ≤ g ∧ g < 1073741823 := by
  unfold hnB
  simp only [Bool.and_eq_true, hfB_iff30]
  omega
theorem hpV_yes (k s g : Int) (h : 1 ≤ k ∧ k ≤ 3 ∧ 0 ≤ s ∧ s < 4294967296 ∧ 0 ≤ g ∧ g < 1073741824) : hpV k s g = k * 4611686018427387904 + g * 4294967296 + s := if_pos ((hpB_iff k s g).2 h)
theorem hpV_no (k s g : Int) (h : ¬ (1 ≤ k ∧ k ≤ 3 ∧ 0 ≤ s ∧ s < 4294967296 ∧ 0 ≤ g ∧ g < 1073741824)) : hpV k s g = 0 := if_neg (fun e => h ((hpB_iff k s g).1 e))
theorem hpV_range (k s g : Int) : 0 ≤ hpV k s g ∧ hpV k s g < 18446744073709551616 := by
  by_cases h : 1 ≤ k ∧ k ≤ 3 ∧ 0 ≤ s ∧ s < 4294967296 ∧ 0 ≤ g ∧ g < 1073741824
  · rw [hpV_yes _ _ _ h]; omega
  · rw [hpV_no _ _ _ h]; omega
theorem hnV_yes (g : Int) (h : 0 ≤ g ∧ g < 1073741823) : hnV g = g + 1 := if_pos ((hnB_iff g).2 h)
theorem hnV_no (g : Int) (h : ¬ (0 ≤ g ∧ g < 1073741823)) : hnV g = 0 := if_neg (fun e => h ((hnB_iff g).1 e))
theorem huK_zero (h : Nat) : huK h = 0 ↔ ¬ 4611686018427387904 ≤ h := by unfold huK; omega
end Go.Proofs.Ytbkdlblpoohliaa.M
