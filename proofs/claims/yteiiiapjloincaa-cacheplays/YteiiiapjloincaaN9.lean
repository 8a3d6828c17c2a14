/-
  The document's list of chunks that are kept, held against what is kept of each class: no program in sight.
-/
import Derived.Test.YteiiiapjloincaaL9
namespace Go.Proofs.Yteiiiapjloincaa.M

/-- What a list of chunks keeps of each class: an element's class is its first number, its page the second. -/
def sel (l : List R) : Ky := fun c => (l.filter fun r => r.p == c).map (·.n)
theorem sel_nil : sel [] = empty := rfl
theorem sel_append (l m : List R) (c : Int) : sel (l ++ m) c = sel l c ++ sel m c := by simp [sel]
theorem sel_one (r : R) (c : Int) : sel [r] c = if r.p = c then [r.n] else [] := by
  unfold sel
  by_cases e : r.p = c
  · simp [e]
  · simp [e]
theorem sel_snoc (l : List R) (r : R) : sel (l ++ [r]) = upd (sel l) r.p (sel l r.p ++ [r.n]) := by
  funext d
  rw [sel_append, sel_one]
  unfold upd
  by_cases e : r.p = d
  · rw [if_pos e, if_pos e.symm, e]
  · rw [if_neg e, if_neg (fun h => e h.symm), List.append_nil]
theorem sel_push {l : List R} {c p : Int} (h : pushB (sel l) c p = true) : sel (l ++ [⟨c, p⟩]) = pushF (sel l) c p := by rw [sel_snoc, pushF_yes _ _ _ h]
def pushL (l : List R) (c p : Int) : List R := if pushB (sel l) c p = true then l ++ [⟨c, p⟩] else l
theorem sel_pushL (l : List R) (c p : Int) : sel (pushL l c p) = pushF (sel l) c p := by
  unfold pushL
  cases h : pushB (sel l) c p with
  | true => rw [if_pos rfl, sel_push h]
  | false => rw [if_neg (by simp), pushF_no _ _ _ h]
theorem pushL_length (l : List R) (c p : Int) : (pushL l c p).length ≤ l.length + 1 := by
  unfold pushL
  split
  · simp
  · omega
theorem sel_take_succ (l : List R) (k : Nat) (h : k < l.length) (c : Int) : sel (l.take (k + 1)) c = sel (l.take k) c ++ if l[k].p = c then [l[k].n] else [] := by
  rw [List.take_add_one, List.getElem?_eq_getElem h, sel_append]
  show _ ++ sel [l[k]] c = _
  rw [sel_one]
theorem sel_none {l : List R} {c : Int} (h : ∀ r ∈ l, r.p ≠ c) : sel l c = [] := by
  unfold sel
  rw [List.filter_eq_nil_iff.2 (fun r hr => by simpa using h r hr)]
  rfl
theorem split_mid (l : List R) (i : Nat) (h : i < l.length) : l = l.take i ++ ([l[i]] ++ l.drop (i + 1)) := by
  rw [List.singleton_append, List.getElem_cons_drop, List.take_append_drop]
theorem sel_pop {l : List R} {c : Int} (i : Nat) (hi : i < l.length) (hc : l[i].p = c) (hlast : ∀ j (h : j < l.length), i < j → l[j].p ≠ c) :
    popV (sel l) c = l[i].n ∧ popB (sel l) c = true ∧ popF (sel l) c = sel (l.take i ++ l.drop (i + 1)) := by
  have hd : sel (l.drop (i + 1)) c = [] := sel_none fun r hr => by
    obtain ⟨j, hj, rfl⟩ := List.getElem_of_mem hr
    rw [List.getElem_drop]
    exact hlast _ _ (by omega)
  have e : sel l c = sel (l.take i) c ++ [l[i].n] := by
    conv => lhs; rw [split_mid l i hi]
    rw [sel_append, sel_append, sel_one, if_pos hc, hd, List.append_nil]
  obtain ⟨h1, h2, h3⟩ := pop_snoc e
  refine ⟨h1, h2, ?_⟩
  funext d
  by_cases ed : d = c
  · subst ed
    rw [h3, sel_append, hd, List.append_nil]
  · rw [popF_ne ed, sel_append]
    conv => lhs; rw [split_mid l i hi]
    rw [sel_append, sel_append, sel_one, if_neg (fun h => ed (by rw [← h, hc])), List.nil_append]
theorem Good.mem {l : List R} (h : Good (sel l)) {r : R} (hr : r ∈ l) : 0 ≤ r.p ∧ r.p < 7 := by
  apply Decidable.byContradiction
  intro hn
  have := h.out r.p (by omega)
  unfold sel at this
  rw [List.map_eq_nil_iff, List.filter_eq_nil_iff] at this
  exact this r hr (by simp)
/-- The pages of a list of chunks. -/
def psum (l : List R) : Int := (l.map fun r => pg r.p).sum
theorem psum_append (l m : List R) : psum (l ++ m) = psum l + psum m := by simp [psum]
theorem psum_take_succ (l : List R) (k : Nat) (h : k < l.length) : psum (l.take (k + 1)) = psum (l.take k) + pg l[k].p := by
  rw [List.take_add_one, List.getElem?_eq_getElem h, psum_append]
  show _ + psum [l[k]] = _
  simp [psum]
theorem psum_small (l : List R) : ∀ k, k ≤ l.length → 0 ≤ psum (l.take k) ∧ psum (l.take k) ≤ 64 * k
  | 0, _ => by simp [psum]
  | k + 1, hk => by
    have ih := psum_small l k (by omega)
    rw [psum_take_succ l k (by omega)]
    have := pg_le l[k].p
    omega
theorem sumTo_upd (f : Ky) (j : Nat) (x : List Int) : ∀ k, sumTo (upd f j x) k = sumTo f k + if j < k then ((x.length : Int) - (f j).length) * pg j else 0
  | 0 => by simp [sumTo]
  | k + 1 => by
    simp only [sumTo]
    rw [sumTo_upd f j x k]
    rcases Nat.lt_trichotomy j k with h | h | h
    · rw [if_pos h, if_pos (by omega), upd_ne _ _ _ _ (by omega)]
      omega
    · subst h
      rw [if_neg (by omega), if_pos (by omega), upd_self, Int.sub_mul]
      omega
    · rw [if_neg (by omega), if_neg (by omega), upd_ne _ _ _ _ (by omega)]
      omega
theorem psum_snoc (l : List R) (r : R) (hr : 0 ≤ r.p ∧ r.p < 7) (ih : psum l = sum (sel l)) : psum (l ++ [r]) = sum (sel (l ++ [r])) := by
  obtain ⟨j, hj⟩ : ∃ j : Nat, r.p = j := ⟨r.p.toNat, by omega⟩
  rw [psum_append, ih, sel_snoc, hj]
  unfold sum
  rw [sumTo_upd, if_pos (by omega)]
  have e1 : (((sel l (j : Int) ++ [r.n]).length : Nat) : Int) - ((sel l (j : Int)).length : Int) = 1 := by simp; omega
  rw [e1]
  simp [psum, hj]
theorem psum_sel (l : List R) (h : ∀ r ∈ l, 0 ≤ r.p ∧ r.p < 7) : psum l = sum (sel l) := by
  have key : ∀ k, k ≤ l.length → psum (l.take k) = sum (sel (l.take k)) := by
    intro k
    induction k with
    | zero => intro _; rfl
    | succ k ih =>
      intro hk
      rw [List.take_add_one, List.getElem?_eq_getElem (show k < l.length by omega)]
      exact psum_snoc _ _ (h _ (List.getElem_mem _)) (ih (by omega))
  have := key l.length (Nat.le_refl _)
  rwa [List.take_length] at this
end Go.Proofs.Yteiiiapjloincaa.M
