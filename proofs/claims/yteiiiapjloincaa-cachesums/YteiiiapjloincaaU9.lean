/-
  What CacheSums goes by: all that is kept, its pages, its order, and how many of each class.
-/
import Derived.Test.YteiiiapjloincaaL9
namespace Go.Proofs.Yteiiiapjloincaa.M

theorem total_snoc (l : List R) (r : R) : total (l ++ [r]) = total l + r.n := by
  have h := total_take_succ (l ++ [r]) l.length (by simp)
  rw [List.take_of_length_le (by simp), List.take_left' rfl] at h
  rw [h]
  simp
theorem total_rows (l : List R) (f : List Int) (q : Int) : total (l ++ f.map fun p => (⟨p, q⟩ : R)) = total l + (f.length : Int) * q := by
  induction f generalizing l with
  | nil => simp
  | cons p f ih =>
    have : l ++ ((p :: f).map fun p => (⟨p, q⟩ : R)) = (l ++ [⟨p, q⟩]) ++ f.map fun p => (⟨p, q⟩ : R) := by simp
    rw [this, ih, total_snoc, List.length_cons]
    have : ((f.length + 1 : Nat) : Int) * q = (f.length : Int) * q + q := by rw [Int.natCast_add, Int.add_mul]; simp
    rw [this]
    show total l + q + _ = _
    omega
theorem total_allTo (f : Ky) : ∀ k, total (allTo f k) = sumTo f k
  | 0 => rfl
  | k + 1 => by rw [allTo, rows, total_rows, total_allTo f k]; rfl
theorem total_all (f : Ky) : total (all f) = sum f := total_allTo f 7
theorem mem_allTo {f : Ky} {r : R} : ∀ {k}, r ∈ allTo f k → ∃ j : Nat, j < k ∧ r.n = pg j
  | 0, h => by simp [allTo] at h
  | k + 1, h => by
    rw [allTo, List.mem_append] at h
    rcases h with h | h
    · obtain ⟨j, hj, e⟩ := mem_allTo h
      exact ⟨j, by omega, e⟩
    · simp only [rows, List.mem_map] at h
      obtain ⟨p, _, rfl⟩ := h
      exact ⟨k, by omega, rfl⟩
theorem pg_mono {j k : Nat} (h : j < k) (hk : k < 7) : pg j < pg k := by
  rcases (by omega : k = 1 ∨ k = 2 ∨ k = 3 ∨ k = 4 ∨ k = 5 ∨ k = 6) with rfl | rfl | rfl | rfl | rfl | rfl <;>
  rcases (by omega : j = 0 ∨ j = 1 ∨ j = 2 ∨ j = 3 ∨ j = 4 ∨ j = 5) with rfl | rfl | rfl | rfl | rfl | rfl <;> first | decide | omega
theorem sorted_allTo (f : Ky) : ∀ k, k ≤ 7 → (allTo f k).Pairwise fun a b => a.n ≤ b.n
  | 0, _ => by simp [allTo]
  | k + 1, hk => by
    rw [allTo, List.pairwise_append]
    refine ⟨sorted_allTo f k (by omega), ?_, fun a ha b hb => ?_⟩
    · unfold rows
      rw [List.pairwise_map]
      exact List.Pairwise.imp (R := fun _ _ => True) (fun _ => Int.le_refl _) (List.pairwise_of_forall (fun _ _ => trivial))
    · obtain ⟨j, hj, e⟩ := mem_allTo ha
      simp only [rows, List.mem_map] at hb
      obtain ⟨p, _, rfl⟩ := hb
      rw [e]
      exact Int.le_of_lt (pg_mono hj (by omega))
theorem all_order (f : Ky) (i : Nat) (h : i + 1 < (all f).length) : (all f)[i].n ≤ (all f)[i + 1].n := List.pairwise_iff_getElem.1 (show (all f).Pairwise _ from sorted_allTo f 7 (by omega)) i (i + 1) (by omega) h (by omega)
theorem all_small (f : Ky) {r : R} (h : r ∈ all f) : 0 ≤ r.n ∧ r.n ≤ 64 := by
  obtain ⟨j, _, e⟩ := mem_allTo h
  rw [e]
  exact pg_le j
theorem total_small (l : List R) (h : ∀ r ∈ l, 0 ≤ r.n ∧ r.n ≤ 64) : ∀ k, k ≤ l.length → 0 ≤ total (l.take k) ∧ total (l.take k) ≤ 64 * k
  | 0, _ => by simp [total]
  | k + 1, hk => by
    have ih := total_small l h k (by omega)
    rw [total_take_succ l k (by omega)]
    have := h l[k] (List.getElem_mem _)
    omega
/-- How many have so many pages. -/
def pcnt (l : List R) (q : Int) : Nat := l.countP fun r => r.n == q
theorem pcnt_take (l : List R) (q : Int) (k : Nat) (h : k < l.length) : pcnt (l.take (k + 1)) q = pcnt (l.take k) q + if l[k].n = q then 1 else 0 := by
  unfold pcnt
  rw [List.take_add_one, List.getElem?_eq_getElem h, List.countP_append]
  simp [List.countP_cons]
theorem pcnt_le (l : List R) (q : Int) (k : Nat) (h : k ≤ l.length) : pcnt (l.take k) q ≤ k := by
  have := List.countP_le_length (p := fun r : R => r.n == q) (l := l.take k)
  rw [List.length_take] at this
  unfold pcnt
  omega
theorem pcnt_rows (l : List Int) (a q : Int) : pcnt (l.map fun p => (⟨p, a⟩ : R)) q = if a = q then l.length else 0 := by
  unfold pcnt
  induction l with
  | nil => simp
  | cons p l ih =>
    rw [List.map_cons, List.countP_cons, ih]
    by_cases e : a = q
    · simp [e]
    · simp [e]
theorem pcnt_allTo (f : Ky) (k : Nat) (hk : k < 7) : ∀ j, j ≤ 7 → pcnt (allTo f j) (pg k) = if k < j then (f k).length else 0
  | 0, _ => by simp [allTo, pcnt]
  | j + 1, hj => by
    have ih := pcnt_allTo f k hk j (by omega)
    have e : pcnt (allTo f (j + 1)) (pg k) = pcnt (allTo f j) (pg k) + pcnt (rows f j) (pg k) := by unfold pcnt; rw [allTo, List.countP_append]
    rw [e, ih, rows, pcnt_rows]
    rcases Nat.lt_trichotomy k j with h | h | h
    · have : ¬ pg j = pg k := by have := pg_mono h (by omega); omega
      rw [if_pos h, if_neg this, if_pos (by omega)]
      omega
    · subst h
      rw [if_neg (by omega), if_pos rfl, if_pos (by omega)]
      omega
    · have : ¬ pg j = pg k := by have := pg_mono h hk; omega
      rw [if_neg (by omega), if_neg this, if_neg (by omega)]
theorem pcnt_all (f : Ky) (k : Nat) (hk : k < 7) : pcnt (all f) (pg k) = (f k).length := by rw [all, pcnt_allTo f k hk 7 (by omega), if_pos hk]
end Go.Proofs.Yteiiiapjloincaa.M
