/-
  Plain mathematics of classes of chunks: no program in sight.
-/
import Derived.Test.YteiiiapjloincaaM1More
namespace Go.Proofs.Yteiiiapjloincaa.M

/-- How many pages a class's chunks have. -/
def pg (c : Int) : Int := if c = 0 then 1 else if c = 1 then 2 else if c = 2 then 4 else if c = 3 then 8 else if c = 4 then 16 else if c = 5 then 32 else if c = 6 then 64 else 0
/-- The least class that has so many pages. -/
def cls (p : Int) : Int := if p < 1 then -1 else if p ≤ 1 then 0 else if p ≤ 2 then 1 else if p ≤ 4 then 2 else if p ≤ 8 then 3 else if p ≤ 16 then 4 else if p ≤ 32 then 5 else if p ≤ 64 then 6 else -1
/-- Where bytes begin behind a header. -/
def fst (a : Nat) : Nat := upV 32 a
def needB (s a : Nat) : Bool := s != 0 && decide (a ≤ 4096) && powB a && addB (fst a) s
def needV (s a : Nat) : Nat := if needB s a = true then pgs (fst a + s) else 0
def chunkB (s a : Nat) : Bool := needB s a && decide (needV s a ≤ 1048576)
def chunkL (s a : Nat) : Bool := chunkB s a && decide (64 < needV s a)
def chunkV (s a : Nat) : Int := if chunkB s a = true then (if 64 < needV s a then (needV s a : Int) else pg (cls (needV s a))) else 0

theorem pg_out (c : Int) (h : c < 0 ∨ 7 ≤ c) : pg c = 0 := by unfold pg; repeat' split <;> omega
theorem cls_eq (p : Int) (k : Nat) (hk : k < 7) (h1 : 1 ≤ p) (h2 : p ≤ pg k) (h3 : k = 0 ∨ pg ((k : Int) - 1) < p) : cls p = k := by
  rcases (by omega : k = 0 ∨ k = 1 ∨ k = 2 ∨ k = 3 ∨ k = 4 ∨ k = 5 ∨ k = 6) with rfl | rfl | rfl | rfl | rfl | rfl | rfl <;> simp [pg] at h2 h3 <;> unfold cls <;> repeat' split <;> omega
theorem cls_none (p : Int) (h : 64 < p) : cls p = -1 := by unfold cls; repeat' split <;> omega
theorem cls_low (p : Int) (h : p < 1) : cls p = -1 := by unfold cls; rw [if_pos h]
theorem pg_le (c : Int) : 0 ≤ pg c ∧ pg c ≤ 64 := by unfold pg; repeat' split <;> omega
theorem cls_range (p : Int) : -1 ≤ cls p ∧ cls p < 7 := by unfold cls; repeat' split <;> omega
theorem cls_some (p : Int) (h1 : 1 ≤ p) (h2 : p ≤ 64) : 0 ≤ cls p ∧ cls p < 7 ∧ p ≤ pg (cls p) ∧ pg (cls p) < 2 * p ∧ (cls p = 0 ∨ pg (cls p - 1) < p) ∧ cls (pg (cls p)) = cls p := by
  rcases (by omega : p = 1 ∨ p = 2 ∨ (2 < p ∧ p ≤ 4) ∨ (4 < p ∧ p ≤ 8) ∨ (8 < p ∧ p ≤ 16) ∨ (16 < p ∧ p ≤ 32) ∨ (32 < p ∧ p ≤ 64)) with h | h | h | h | h | h | h
  · subst h; decide
  · subst h; decide
  · have e : cls p = 2 := by unfold cls; repeat' split <;> omega
    rw [e]; simp [pg]; exact ⟨by omega, by omega, by omega, by decide⟩
  · have e : cls p = 3 := by unfold cls; repeat' split <;> omega
    rw [e]; simp [pg]; exact ⟨by omega, by omega, by omega, by decide⟩
  · have e : cls p = 4 := by unfold cls; repeat' split <;> omega
    rw [e]; simp [pg]; exact ⟨by omega, by omega, by omega, by decide⟩
  · have e : cls p = 5 := by unfold cls; repeat' split <;> omega
    rw [e]; simp [pg]; exact ⟨by omega, by omega, by omega, by decide⟩
  · have e : cls p = 6 := by unfold cls; repeat' split <;> omega
    rw [e]; simp [pg]; exact ⟨by omega, by omega, by omega, by decide⟩
theorem pg_pow (c : Nat) (h : c < 7) : pg c = ((2 ^ c : Nat) : Int) := by
  rcases (by omega : c = 0 ∨ c = 1 ∨ c = 2 ∨ c = 3 ∨ c = 4 ∨ c = 5 ∨ c = 6) with rfl | rfl | rfl | rfl | rfl | rfl | rfl <;> rfl

theorem fst_up (a : Nat) (hp : powB a = true) (ha : a ≤ 4096) : upB 32 a = true ∧ fst a % a = 0 ∧ 32 ≤ fst a ∧ fst a < 32 + a := by
  have h := up_small 32 a hp (by omega)
  exact ⟨h, up_true 32 a hp h⟩
theorem fst_le (a : Nat) (hp : powB a = true) (ha : a ≤ 4096) : fst a ≤ 4096 := by
  obtain ⟨h1, h2, h3, h4⟩ := fst_up a hp ha
  refine least_mult 32 a (fst a) 4096 h2 ?_ h4 (by omega)
  exact Nat.mod_eq_zero_of_dvd (pow_dvd a 4096 hp (powB_two_pow 12) ha)
theorem fst_mono (a b : Nat) (hp : powB a = true) (hq : powB b = true) (hb : b ≤ 4096) (h : a ≤ b) : fst a ≤ fst b :=
  up_mono 32 a b hp hq h (up_small 32 a hp (by omega)) (up_small 32 b hq (by omega))
theorem needB_of (s a : Nat) (hp : powB a = true) (ha : a ≤ 4096) : needB s a = (s != 0 && addB (fst a) s) := by
  unfold needB; rw [hp, decide_eq_true ha]; simp
theorem pgs_mono (a b : Nat) (h : a ≤ b) : pgs a ≤ pgs b := by unfold pgs; split <;> split <;> omega
theorem needV_le (s a : Nat) : needV s a ≤ 4503599627370496 := by
  unfold needV
  split
  · next h =>
    unfold needB at h
    simp only [Bool.and_eq_true] at h
    exact pgs_le _ (addB_lt _ _ h.2)
  · omega
theorem chunkV_range (s a : Nat) : 0 ≤ chunkV s a ∧ chunkV s a ≤ 1048576 := by
  unfold chunkV
  split
  · next h =>
    unfold chunkB at h
    simp only [Bool.and_eq_true, decide_eq_true_eq] at h
    split
    · omega
    · have := pg_le (cls (needV s a)); omega
  · omega
theorem chunk_no (s a : Nat) (h : needB s a = false) : chunkV s a = 0 ∧ chunkL s a = false ∧ chunkB s a = false := by
  have e : chunkB s a = false := by unfold chunkB; rw [h]; rfl
  exact ⟨by unfold chunkV; rw [e]; rfl, by unfold chunkL; rw [e]; rfl, e⟩
theorem chunk_over (s a : Nat) (h : 1048576 < needV s a) : chunkV s a = 0 ∧ chunkL s a = false ∧ chunkB s a = false := by
  have e : chunkB s a = false := by unfold chunkB; rw [decide_eq_false (by omega)]; simp
  exact ⟨by unfold chunkV; rw [e]; rfl, by unfold chunkL; rw [e]; rfl, e⟩
theorem chunk_large (s a : Nat) (hb : needB s a = true) (h : needV s a ≤ 1048576) (h2 : 64 < needV s a) : chunkV s a = needV s a ∧ chunkL s a = true ∧ chunkB s a = true := by
  have e : chunkB s a = true := by unfold chunkB; rw [hb, decide_eq_true h]; rfl
  exact ⟨by unfold chunkV; rw [if_pos e, if_pos h2], by unfold chunkL; rw [e, decide_eq_true h2]; rfl, e⟩
theorem chunk_small (s a : Nat) (hb : needB s a = true) (h2 : ¬ 64 < needV s a) : chunkV s a = pg (cls (needV s a)) ∧ chunkL s a = false ∧ chunkB s a = true := by
  have e : chunkB s a = true := by unfold chunkB; rw [hb, decide_eq_true (by omega)]; rfl
  exact ⟨by unfold chunkV; rw [if_pos e, if_neg h2], by unfold chunkL; rw [e, decide_eq_false h2]; rfl, e⟩
theorem needV_pos (s a : Nat) (h : needB s a = true) : 1 ≤ needV s a := by
  unfold needV
  rw [if_pos h]
  have : pgs (fst a + s) ≠ 0 := by
    rw [Ne, pgs_zero]
    unfold needB at h
    simp at h
    omega
  omega
end Go.Proofs.Yteiiiapjloincaa.M
