/-
  What the small calls of cells come to, and Get, of any width and place.
-/
import Derived.Test.YtacognejefeboaaRep
import Derived.Test.YtacognejefeboaaBoth
namespace Go.Proofs.Ytacognejefeboaa
open Go.ChangeShapes Go.WideShapes Go.ChangeAt Go.RowKit
set_option linter.unusedVariables false
set_option maxRecDepth 20000

/-- May a number of such a width stand at such a place? -/
def plB (a : Nat) (y : Int) : Bool := M.wide y && decide (a % y.toNat = 0)
theorem plB_cases {a : Nat} {y : Int} (h : plB a y = true) : ∃ k : Nat, y = k ∧ (k = 1 ∨ k = 2 ∨ k = 4 ∨ k = 8) ∧ a % k = 0 := by
  unfold plB at h
  rw [Bool.and_eq_true] at h
  obtain ⟨k, rfl, hk⟩ := M.wide_cases h.1
  exact ⟨k, rfl, hk, by simpa using h.2⟩
theorem plB_nat {a k : Nat} (hk : k = 1 ∨ k = 2 ∨ k = 4 ∨ k = 8) (h : a % k = 0) : plB a (k : Int) = true := by
  unfold plB
  rw [M.wide_nat hk]
  simpa using h
theorem fits_zero (y : Int) (w : World) : Calls Try.prog 68 #[.int .u64 0, .int .i64 y] w fun e w' => e = .returned (.bool (M.wide y)) ∧ w = w' := by
  have h := fits_any 0 y (by omega) w
  have e : fitsB 0 y = M.wide y := by
    have : 0 < 256 ^ y.toNat := Nat.pow_pos (by omega)
    unfold fitsB
    simp [this]
  rw [e] at h
  exact h
theorem placed_any (a : Nat) (y : Int) (ha : a < 18446744073709551616) (w : World) :
    Calls Try.prog 64 #[.int .u64 a, .int .i64 y] w fun e w' => e = .returned (.bool (plB a y)) ∧ w = w' := by
  by_cases hw : M.wide y = true
  · obtain ⟨k, rfl, hk⟩ := M.wide_cases hw
    rcases hk with rfl | rfl | rfl | rfl
    all_goals
      go_enter Try.func64, Try.ntmps64
      go_wp2_with (go_at_call 68; refine (fits_zero _ _).mono ?_; rintro e w' ⟨rfl, rfl⟩)
      go_ret
      refine ⟨retB ?_, rfl⟩
      rw [Bool.eq_iff_iff]
      simp [plB, M.wide]
      try omega
  · have hw' : M.wide y = false := by simpa using hw
    clear hw
    go_enter Try.func64, Try.ntmps64
    go_wp2_with (go_at_call 68; refine (fits_zero _ _).mono ?_; rintro e w' ⟨rfl, rfl⟩)
    go_ret
    exact ⟨retB (by simp [plB, hw']), rfl⟩

/-! What Get answers. -/
def gE (P a : Nat) (y : Int) : Nat := if plB a y = true then (if M.inB a y.toNat (P * 4096) = true then 0 else 3) else 1
def gV (P : Nat) (f : Nat → UInt8) (a : Nat) (y : Int) : Nat := if gE P a y = 0 then M.num (M.rd f a y.toNat) else 0
def gT (P a : Nat) (y : Int) : Nat := if gE P a y = 0 then M.touched a y.toNat else 0
theorem gE_ok {P a : Nat} {y : Int} (h : gE P a y = 0) : plB a y = true ∧ M.inB a y.toNat (P * 4096) = true := by
  unfold gE at h
  split at h
  · split at h
    · exact ⟨by assumption, by assumption⟩
    · cases h
  · cases h
theorem gE_of {P a : Nat} {y : Int} (h1 : plB a y = true) (h2 : M.inB a y.toNat (P * 4096) = true) : gE P a y = 0 := by unfold gE; rw [if_pos h1, if_pos h2]
theorem gE_cases (P a : Nat) (y : Int) : (plB a y = true ∧ M.inB a y.toNat (P * 4096) = true ∧ gE P a y = 0) ∨ (plB a y = true ∧ M.inB a y.toNat (P * 4096) = false ∧ gE P a y = 3) ∨ (plB a y = false ∧ gE P a y = 1) := by
  unfold gE
  by_cases h1 : plB a y = true
  · by_cases h2 : M.inB a y.toNat (P * 4096) = true
    · exact Or.inl ⟨h1, h2, by rw [if_pos h1, if_pos h2]⟩
    · exact Or.inr (Or.inl ⟨h1, by simpa using h2, by rw [if_pos h1, if_neg h2]⟩)
  · exact Or.inr (Or.inr ⟨by simpa using h1, by rw [if_neg h1]⟩)
theorem gT_le {P a : Nat} {y : Int} (hP : P ≤ 1048576) : gT P a y ≤ 1048578 := by
  unfold gT
  split
  · next h => exact touch_le (gE_ok h).2 hP
  · omega
theorem gV_lt (P : Nat) (f : Nat → UInt8) (a : Nat) (y : Int) : gV P f a y < 18446744073709551616 := by
  unfold gV
  split
  · next h =>
    obtain ⟨k, rfl, hk, _⟩ := plB_cases (gE_ok h).1
    have := M.num_lt (M.rd f a ((k : Int)).toNat)
    rw [M.rd_length] at this
    rcases hk with rfl | rfl | rfl | rfl <;> simp at this ⊢ <;> omega
  · omega

section
variable {w0 w w' : World} {s P T : Nat} {f : Nat → UInt8} {O O' : Nat → Prop}
theorem At.mono (h : At w0 w s P T f O) (hO : ∀ b, O b → O' b) (hl : ∀ b, O' b → b < w.heap.size) (ho : ∀ b, O' b → w0.heap.size ≤ b) : At w0 w s P T f O' := ⟨h.sp.mono hO hl, h.bel, ho⟩
theorem getOf_all (l : List UInt8) (k : Nat) (hk : k = 1 ∨ k = 2 ∨ k = 4 ∨ k = 8) (hl : l.length = k) : getOf l 0 (k : Int) = M.num l := by
  unfold getOf
  have h : M.has l.length 0 (k : Int) = true := M.has_nat (z := l.length) (a := 0) (k := k) hk (by omega)
  rw [if_pos h]
  simp [M.seg, List.take_of_length_le (Nat.le_of_eq hl)]
end
end Go.Proofs.Ytacognejefeboaa
