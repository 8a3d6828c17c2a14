/-
  Plain mathematics of chunks that are kept, by their classes: no program in sight.
-/
import Derived.Test.YteiiiapjloincaaM7
import Derived.Test.YteiiiapjloincaaM5b
namespace Go.Proofs.Yteiiiapjloincaa.M

/-- What is kept of each class, the first one that was pushed first. -/
abbrev Ky := Int → List Int
def empty : Ky := fun _ => []
def upd (f : Ky) (c : Int) (l : List Int) : Ky := fun d => if d = c then l else f d
structure Good (f : Ky) : Prop where
  out : ∀ c, (c < 0 ∨ 7 ≤ c) → f c = []
  four : ∀ c, (f c).length ≤ 4
def pushB (f : Ky) (c p : Int) : Bool := decide (0 ≤ c) && (decide (c < 7) && (decide (0 ≤ p) && decide ((f c).length < 4)))
def pushF (f : Ky) (c p : Int) : Ky := if pushB f c p = true then upd f c (f c ++ [p]) else f
def popB (f : Ky) (c : Int) : Bool := decide (0 < (f c).length)
def popV (f : Ky) (c : Int) : Int := (f c).getD ((f c).length - 1) 0
def popF (f : Ky) (c : Int) : Ky := upd f c (f c).dropLast
def sumTo (f : Ky) : Nat → Int
  | 0 => 0
  | k + 1 => sumTo f k + ((f k).length : Int) * pg k
def sum (f : Ky) : Int := sumTo f 7
def rows (f : Ky) (k : Nat) : List R := (f k).map fun p => ⟨p, pg k⟩
def allTo (f : Ky) : Nat → List R
  | 0 => []
  | k + 1 => allTo f k ++ rows f k
def all (f : Ky) : List R := allTo f 7

theorem upd_self (f : Ky) (c : Int) (l : List Int) : upd f c l c = l := by simp [upd]
theorem upd_ne (f : Ky) (c d : Int) (l : List Int) (h : d ≠ c) : upd f c l d = f d := by simp [upd, h]
theorem upd_same (f : Ky) (c : Int) : upd f c (f c) = f := by
  funext d
  unfold upd
  split
  · next h => rw [h]
  · rfl
theorem Good.empty : Good empty := ⟨fun _ _ => rfl, fun _ => by simp [M.empty]⟩
theorem pushB_iff (f : Ky) (c p : Int) : pushB f c p = true ↔ 0 ≤ c ∧ c < 7 ∧ 0 ≤ p ∧ (f c).length < 4 := by simp [pushB]
theorem pushB_no (f : Ky) (c p : Int) (h : ¬ (0 ≤ c ∧ c < 7 ∧ 0 ≤ p ∧ (f c).length < 4)) : pushB f c p = false := by
  rw [← Bool.not_eq_true, pushB_iff]; exact h
theorem pushF_no (f : Ky) (c p : Int) (h : pushB f c p = false) : pushF f c p = f := by unfold pushF; rw [h]; simp
theorem pushF_yes (f : Ky) (c p : Int) (h : pushB f c p = true) : pushF f c p = upd f c (f c ++ [p]) := by unfold pushF; rw [h]; simp
theorem Good.push {f : Ky} (h : Good f) (c p : Int) : Good (pushF f c p) := by
  unfold pushF
  split
  · next hb =>
    obtain ⟨h1, h2, h3, h4⟩ := (pushB_iff _ _ _).1 hb
    refine ⟨fun d hd => ?_, fun d => ?_⟩
    · rw [upd_ne _ _ _ _ (by omega)]; exact h.out d hd
    · by_cases e : d = c
      · subst e; rw [upd_self]; simp; omega
      · rw [upd_ne _ _ _ _ e]; exact h.four d
  · exact h
theorem Good.pop {f : Ky} (h : Good f) (c : Int) : Good (popF f c) := by
  refine ⟨fun d hd => ?_, fun d => ?_⟩
  · unfold popF upd
    split
    · next e => rw [h.out c (by omega)]; rfl
    · exact h.out d hd
  · by_cases e : d = c
    · subst e; unfold popF; rw [upd_self]; have := h.four d; simp; omega
    · unfold popF; rw [upd_ne _ _ _ _ e]; exact h.four d
theorem popF_no (f : Ky) (c : Int) (h : popB f c = false) : popF f c = f := by
  have : f c = [] := by
    unfold popB at h
    simp at h
    exact h
  unfold popF
  rw [this]
  show upd f c [] = f
  rw [← this, upd_same]
theorem popV_no (f : Ky) (c : Int) (h : popB f c = false) : popV f c = 0 := by
  have : f c = [] := by
    unfold popB at h
    simp at h
    exact h
  unfold popV
  rw [this]
  rfl
theorem sumTo_between {f : Ky} (h : Good f) : ∀ k, k ≤ 7 → 0 ≤ sumTo f k ∧ sumTo f k ≤ 256 * k
  | 0, _ => by simp [sumTo]
  | k + 1, hk => by
    have ih := sumTo_between h k (by omega)
    have h4 := h.four k
    have hp := pg_le k
    have h1 : 0 ≤ ((f k).length : Int) * pg k := Int.mul_nonneg (by omega) hp.1
    have h2 : ((f k).length : Int) * pg k ≤ 4 * 64 := Int.mul_le_mul (by omega) hp.2 hp.1 (by omega)
    simp only [sumTo]
    omega
theorem len_mul {f : Ky} (h : Good f) (k : Nat) : 0 ≤ ((f k).length : Int) * pg k ∧ ((f k).length : Int) * pg k ≤ 256 := by
  have h4 := h.four k
  have hp := pg_le k
  exact ⟨Int.mul_nonneg (by omega) hp.1, by have := Int.mul_le_mul (show ((f k).length : Int) ≤ 4 by omega) hp.2 hp.1 (by omega); omega⟩
theorem rows_length (f : Ky) (k : Nat) : (rows f k).length = (f k).length := by simp [rows]
theorem allTo_length {f : Ky} (h : Good f) : ∀ k, (allTo f k).length ≤ 4 * k
  | 0 => by simp [allTo]
  | k + 1 => by
    have ih := allTo_length h k
    have h4 := h.four k
    simp only [allTo, List.length_append, rows_length]
    omega
theorem pg_pos (k : Nat) (h : k < 7) : 1 ≤ pg k := by
  rcases (by omega : k = 0 ∨ k = 1 ∨ k = 2 ∨ k = 3 ∨ k = 4 ∨ k = 5 ∨ k = 6) with rfl | rfl | rfl | rfl | rfl | rfl | rfl <;> decide
theorem all_empty : all empty = [] := rfl
theorem sum_empty : sum empty = 0 := by decide
end Go.Proofs.Yteiiiapjloincaa.M
