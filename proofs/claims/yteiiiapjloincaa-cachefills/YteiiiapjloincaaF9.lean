/-
  What CacheFills goes by: caches that keep the first ones of a row in each class.
-/
import Derived.Test.YteiiiapjloincaaL9
namespace Go.Proofs.Yteiiiapjloincaa.M

def seq (a : Int) (m : Nat) : List Int := (List.range m).map fun (j : Nat) => a + (j : Int)
theorem seq_succ (a : Int) (m : Nat) : seq a (m + 1) = seq a m ++ [a + m] := by simp [seq, List.range_succ]
theorem seq_length (a : Int) (m : Nat) : (seq a m).length = m := by simp [seq]
/-- Of each class so many are kept. -/
def cntF (n : Int) (cnt : Int → Nat) : Ky := fun c => if 0 ≤ c ∧ c < 7 then seq (n + 10 * c) (cnt c) else []
theorem cntF_in {n : Int} {cnt : Int → Nat} {c : Int} (h0 : 0 ≤ c) (h7 : c < 7) : cntF n cnt c = seq (n + 10 * c) (cnt c) := by unfold cntF; rw [if_pos ⟨h0, h7⟩]
theorem cntF_congr {n : Int} {cnt cnt' : Int → Nat} (h : ∀ c, 0 ≤ c → c < 7 → cnt c = cnt' c) : cntF n cnt = cntF n cnt' := by
  funext c
  unfold cntF
  split
  · next hc => rw [h c hc.1 hc.2]
  · rfl
theorem cntF_upd {n : Int} {cnt : Int → Nat} {c : Int} (h0 : 0 ≤ c) (h7 : c < 7) (m : Nat) : upd (cntF n cnt) c (seq (n + 10 * c) m) = cntF n (fun d => if d = c then m else cnt d) := by
  funext d
  unfold upd
  by_cases e : d = c
  · subst e; rw [if_pos rfl, cntF_in h0 h7, if_pos rfl]
  · rw [if_neg e]
    unfold cntF
    simp only [if_neg e]
theorem fill_push {n : Int} {cnt : Int → Nat} {c : Int} (h0 : 0 ≤ c) (h7 : c < 7) (hn : 0 ≤ n) (m : Nat) (hm : cnt c = m) (h4 : m < 4) :
    pushB (cntF n cnt) c (n + 10 * c + m) = true ∧ pushF (cntF n cnt) c (n + 10 * c + m) = cntF n (fun d => if d = c then m + 1 else cnt d) := by
  have hl : (cntF n cnt c).length = m := by rw [cntF_in h0 h7, seq_length, hm]
  have hb : pushB (cntF n cnt) c (n + 10 * c + m) = true := by rw [pushB_len h0 h7 (by omega), hl]; simp [h4]
  refine ⟨hb, ?_⟩
  rw [pushF_yes _ _ _ hb, cntF_in h0 h7, hm, ← seq_succ, cntF_upd h0 h7]
theorem fill_full {n : Int} {cnt : Int → Nat} {c p : Int} (h0 : 0 ≤ c) (h7 : c < 7) (hm : cnt c = 4) :
    pushB (cntF n cnt) c p = false ∧ pushF (cntF n cnt) c p = cntF n cnt := by
  have hl : (cntF n cnt c).length = 4 := by rw [cntF_in h0 h7, seq_length, hm]
  have hb : pushB (cntF n cnt) c p = false := pushB_no _ _ _ (by rw [hl]; omega)
  exact ⟨hb, pushF_no _ _ _ hb⟩
theorem fill_pop {n : Int} {cnt : Int → Nat} {c : Int} (h0 : 0 ≤ c) (h7 : c < 7) (m : Nat) (hm : cnt c = m + 1) :
    popV (cntF n cnt) c = n + 10 * c + m ∧ popB (cntF n cnt) c = true ∧ popF (cntF n cnt) c = cntF n (fun d => if d = c then m else cnt d) := by
  have e : cntF n cnt c = seq (n + 10 * c) m ++ [n + 10 * c + m] := by rw [cntF_in h0 h7, hm, seq_succ]
  obtain ⟨h1, h2, h3⟩ := pop_snoc e
  refine ⟨h1, h2, ?_⟩
  unfold popF
  rw [e, List.dropLast_concat, cntF_upd h0 h7]
/-- How many of each class are kept behind so many rounds, and so many classes of the next one. -/
def fillC (i k : Nat) : Int → Nat := fun c => min (i + if c < k then 1 else 0) 4
theorem fill_start (n : Int) : empty = cntF n (fillC 0 0) := by
  funext c
  unfold empty cntF fillC
  split
  · rw [if_neg (by omega)]; rfl
  · rfl
theorem fill_next (n : Int) (i : Nat) : cntF n (fillC i 7) = cntF n (fillC (i + 1) 0) := cntF_congr fun c h0 h7 => by
  unfold fillC
  rw [if_pos (by omega), if_neg (by omega)]
theorem fill_step {n : Int} (hn : 0 ≤ n) (i k : Nat) (hk : k < 7) :
    pushB (cntF n (fillC i k)) k (n + 10 * k + i) = decide (i < 4) ∧ pushF (cntF n (fillC i k)) k (n + 10 * k + i) = cntF n (fillC i (k + 1)) := by
  by_cases h4 : i < 4
  · obtain ⟨h1, h2⟩ := fill_push (n := n) (cnt := fillC i k) (c := k) (by omega) (by omega) hn i (by unfold fillC; rw [if_neg (by omega)]; omega) h4
    refine ⟨by rw [h1]; simp [h4], ?_⟩
    rw [h2]
    refine cntF_congr fun c h0 h7 => ?_
    unfold fillC
    by_cases e : c = k
    · rw [if_pos e, if_pos (by omega)]; omega
    · rw [if_neg e]
      by_cases hl : c < k
      · rw [if_pos hl, if_pos (by omega)]
      · rw [if_neg hl, if_neg (by omega)]
  · obtain ⟨h1, h2⟩ := fill_full (n := n) (cnt := fillC i k) (c := k) (p := n + 10 * k + i) (by omega) (by omega) (by unfold fillC; omega)
    refine ⟨by rw [h1]; simp [h4], ?_⟩
    rw [h2]
    refine cntF_congr fun c h0 h7 => ?_
    unfold fillC
    omega
def full (n : Int) : Ky := cntF n fun _ => 4
theorem fill_end (n : Int) : cntF n (fillC 5 0) = full n := cntF_congr fun c h0 h7 => by unfold fillC; omega
theorem full_all (n : Int) : all (full n) = (List.range 28).map fun (i : Nat) => ⟨n + 10 * ((i / 4 : Nat) : Int) + ((i % 4 : Nat) : Int), pg ((i / 4 : Nat) : Int)⟩ := rfl
theorem full_len (n : Int) : (all (full n)).length = 28 := rfl
theorem full_sum (n : Int) : sum (full n) = 508 := by
  have h : ∀ k : Nat, k < 7 → (full n k).length = 4 := fun k hk => by unfold full; rw [cntF_in (by omega) (by omega), seq_length]
  unfold sum
  simp only [sumTo]
  rw [h 0 (by omega), h 1 (by omega), h 2 (by omega), h 3 (by omega), h 4 (by omega), h 5 (by omega), h 6 (by omega)]
  decide
theorem full_at (n : Int) (i : Nat) (h : i < 28) : (all (full n))[i]? = some ⟨n + 10 * ((i / 4 : Nat) : Int) + ((i % 4 : Nat) : Int), pg ((i / 4 : Nat) : Int)⟩ := by
  rw [full_all, List.getElem?_map, List.getElem?_range h]
  rfl
theorem full_turn {n : Int} (hn : 0 ≤ n) {c : Int} (h0 : 0 ≤ c) (h7 : c < 7) :
    popV (full n) c = n + 10 * c + 3 ∧ popB (full n) c = true ∧ (popF (full n) c c).length = 3 ∧ pushB (popF (full n) c) c (n + 10 * c + 3) = true ∧ pushF (popF (full n) c) c (n + 10 * c + 3) = full n := by
  obtain ⟨h1, h2, h3⟩ := fill_pop (n := n) (cnt := fun _ => 4) h0 h7 3 rfl
  obtain ⟨h4, h5⟩ := fill_push (n := n) (cnt := fun d => if d = c then 3 else 4) h0 h7 hn 3 (by simp) (by omega)
  have e : popF (full n) c = cntF n (fun d => if d = c then 3 else 4) := h3
  refine ⟨h1, h2, by rw [e, cntF_in h0 h7, seq_length]; simp, by rw [e]; exact h4, ?_⟩
  rw [e]
  refine h5.trans (cntF_congr fun d _ _ => ?_)
  by_cases e : d = c
  · rw [if_pos e]
  · rw [if_neg e, if_neg e]
/-- How many are left of each class behind so many classes, and so many of the next one. -/
def leftC (k m : Nat) : Int → Nat := fun c => if c < k then 0 else if c = k then m else 4
theorem left_start (n : Int) : full n = cntF n (leftC 0 4) := cntF_congr fun c h0 h7 => by
  unfold leftC
  rw [if_neg (by omega)]
  split <;> rfl
theorem left_next (n : Int) (k : Nat) : cntF n (leftC k 0) = cntF n (leftC (k + 1) 4) := cntF_congr fun c h0 h7 => by
  unfold leftC
  by_cases h1 : c < k
  · rw [if_pos h1, if_pos (by omega)]
  · rw [if_neg h1]
    by_cases h2 : c = k
    · rw [if_pos h2, if_pos (by omega)]
    · rw [if_neg h2, if_neg (by omega)]
      split <;> rfl
theorem left_end (n : Int) : cntF n (leftC 7 4) = empty := by
  funext c
  unfold cntF leftC empty
  split
  · rw [if_pos (by omega)]; rfl
  · rfl
theorem left_step (n : Int) (k m : Nat) (hk : k < 7) :
    popV (cntF n (leftC k (m + 1))) k = n + 10 * k + m ∧ popB (cntF n (leftC k (m + 1))) k = true ∧ popF (cntF n (leftC k (m + 1))) k = cntF n (leftC k m) := by
  obtain ⟨h1, h2, h3⟩ := fill_pop (n := n) (cnt := leftC k (m + 1)) (c := k) (by omega) (by omega) m (by unfold leftC; rw [if_neg (by omega), if_pos rfl])
  refine ⟨h1, h2, h3.trans (cntF_congr fun c h0 h7 => ?_)⟩
  unfold leftC
  by_cases e : c = k
  · rw [if_pos e, if_neg (by omega), if_pos e]
  · rw [if_neg e, if_neg e, if_neg e]
end Go.Proofs.Yteiiiapjloincaa.M
