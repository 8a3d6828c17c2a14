/-
  Plain mathematics of bytes that are laid several times. It speaks of no program.
-/
import Derived.Test.YtacognejefeboaaM2
import Derived.Test.YtacognejefeboaaM3
namespace Go.Proofs.Ytacognejefeboaa.M

/-- Bytes, so often, one behind the other. -/
def rep (b : List UInt8) (t : Nat) : List UInt8 := (List.replicate t b).flatten
theorem rep_zero (b : List UInt8) : rep b 0 = [] := rfl
theorem rep_succ (b : List UInt8) (t : Nat) : rep b (t + 1) = b ++ rep b t := by simp [rep, List.replicate_succ]
theorem rep_one (b : List UInt8) : rep b 1 = b := by rw [rep_succ, rep_zero, List.append_nil]
theorem rep_length (b : List UInt8) (t : Nat) : (rep b t).length = t * b.length := by
  induction t with
  | zero => simp [rep]
  | succ t ih => rw [rep_succ, List.length_append, ih, Nat.succ_mul]; omega
theorem rep_at (b : List UInt8) (t i : Nat) (h : i < t * b.length) : (rep b t)[i]? = b[i % b.length]? := by
  induction t generalizing i with
  | zero => simp at h
  | succ t ih =>
    rw [rep_succ]
    rcases Nat.lt_or_ge i b.length with hi | hi
    · rw [List.getElem?_append_left hi, Nat.mod_eq_of_lt hi]
    · rw [List.getElem?_append_right hi, ih (i - b.length) (by rw [Nat.succ_mul] at h; omega), ← Nat.mod_eq_sub_mod hi]
theorem rep_shift (b : List UInt8) (t j c : Nat) (hd : b.length ∣ j) (h : j + c ≤ t * b.length) : ((rep b t).drop j).take c = (rep b t).take c := by
  apply List.ext_getElem?
  intro i
  by_cases hi : i < c
  · rw [List.getElem?_take_of_lt hi, List.getElem?_take_of_lt hi, List.getElem?_drop, rep_at _ _ _ (by omega), rep_at _ _ _ (by omega)]
    obtain ⟨q, rfl⟩ := hd
    rw [Nat.mul_add_mod]
  · rw [List.getElem?_eq_none (by simp; omega), List.getElem?_eq_none (by simp; omega)]
/-- A step of what is laid from the front, by what was laid. -/
theorem rep_step (b : List UInt8) (t j c : Nat) (hd : b.length ∣ j) (h : j + c ≤ t * b.length) (hc : c ≤ j) : (rep b t).take j ++ ((rep b t).take j).take c = (rep b t).take (j + c) := by
  rw [List.take_add, List.take_take, Nat.min_eq_left hc, rep_shift b t j c hd h]
theorem seg_rep (b : List UInt8) (t i : Nat) (h : i < t) : ((rep b t).drop (i * b.length)).take b.length = b := by
  have hm : i * b.length + b.length ≤ t * b.length := by rw [← Nat.succ_mul]; exact Nat.mul_le_mul_right _ h
  rw [rep_shift b t _ _ ⟨i, Nat.mul_comm _ _⟩ hm]
  obtain ⟨s, rfl⟩ : ∃ s, t = s + 1 := ⟨t - 1, by omega⟩
  rw [rep_succ, List.take_append_of_le_length (Nat.le_refl _), List.take_length]
theorem rd_rep (f : Nat → UInt8) (a : Nat) (b : List UInt8) (t i : Nat) (h : i < t) : rd (wr f a (rep b t)) (a + i * b.length) b.length = b := by
  have hm : i * b.length + b.length ≤ t * b.length := by rw [← Nat.succ_mul]; exact Nat.mul_le_mul_right _ h
  have h1 := rd_wr f a (rep b t)
  rw [rep_length] at h1
  have h2 := congrArg (fun l => (List.drop (i * b.length) l).take b.length) h1
  simp only [seg_rep b t i h] at h2
  rw [rd_drop _ _ _ _ (by omega), rd_take _ _ _ _ (by omega)] at h2
  exact h2

end Go.Proofs.Ytacognejefeboaa.M
