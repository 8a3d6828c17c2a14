/-
  The document's list of chunks that are kept, held against what is kept of each class: no program in sight.
-/
import Derived.Test.YtmboibipabkhaaaGreatKxL9
namespace Go.Proofs.YtmboibipabkhaaaGreat.M
def sel (l : List R) : Ky := fun c => (l.filter fun r => r.p == c).map (·.n)
theorem sel_append (l m : List R) (c : Int) : sel (l ++ m) c = sel l c ++ sel m c := by simp [sel]
theorem sel_one (r : R) (c : Int) : sel [r] c = if r.p = c then [r.n] else [] := by
 unfold sel
 by_cases e : r.p = c
 ·simp [e]
 ·simp [e]
theorem sel_snoc (l : List R) (r : R) : sel (l ++ [r]) = upd (sel l) r.p (sel l r.p ++ [r.n]) := by
 funext d
 rw [sel_append, sel_one]
 unfold upd
 by_cases e : r.p = d
 ·rw [if_pos e, if_pos e.symm, e]
 ·rw [if_neg e, if_neg (fun h => e h.symm), List.append_nil]
theorem sel_push {l : List R} {c p : Int} (h : pushB (sel l) c p = true) : sel (l ++ [⟨c, p⟩]) = pushF (sel l) c p := by rw [sel_snoc, pushF_yes _ _ _ h]
def pushL (l : List R) (c p : Int) : List R := if pushB (sel l) c p = true then l ++ [⟨c, p⟩] else l
theorem sel_pushL (l : List R) (c p : Int) : sel (pushL l c p) = pushF (sel l) c p := by
 unfold pushL
 cases h : pushB (sel l) c p with
 | true => rw [if_pos rfl, sel_push h]
 | false => rw [if_neg (by simp), pushF_no _ _ _ h]
theorem sel_take_succ (l : List R) (k : Nat) (h : k < l.length) (c : Int) : sel (l.take (k + 1)) c = sel (l.take k) c ++ if l[k].p = c then [l[k].n] else [] := by
 rw [List.take_add_one, List.getElem?_eq_getElem h, sel_append]
 show _ ++ sel [l[k]] c = _
 rw [sel_one]
theorem sel_none {l : List R} {c : Int} (h : ∀ r ∈ l, r.p ≠ c) : sel l c = [] := by
 unfold sel
 rw [List.filter_eq_nil_iff.2 (fun r hr => by simpa using h r hr)]
 rfl
theorem split_mid (l : List R) (i : Nat) (h : i < l.length) : l = l.take i ++ ([l[i]] ++ l.drop (i + 1)) := by
 rw [List.singleton_append, List.getElem_cons_drop, List.take_append_drop]
theorem sel_pop {l : List R} {c : Int} (i : Nat) (hi : i < l.length) (hc : l[i].p = c) (hlast : ∀ j (h : j < l.length), i < j → l[j].p ≠ c) :
  popV (sel l) c = l[i].n ∧ popB (sel l) c = true ∧ popF (sel l) c = sel (l.take i ++ l.drop (i + 1)) := by
 have hd : sel (l.drop (i + 1)) c = [] := sel_none fun r hr => by
  obtain ⟨j, hj, rfl⟩ := List.getElem_of_mem hr
  rw [List.getElem_drop]
  exact hlast _ _ (by omega)
 have e : sel l c = sel (l.take i) c ++ [l[i].n] := by
  conv => lhs; rw [split_mid l i hi]
  rw [sel_append, sel_append, sel_one, if_pos hc, hd, List.append_nil]
 obtain ⟨h1, h2, h3⟩ := pop_snoc e
 refine ⟨h1, h2, ?_⟩
 funext d
 by_cases ed : d = c
 ·subst ed
  rw [h3, sel_append, hd, List.append_nil]
 ·rw [popF_ne ed, sel_append]
  conv => lhs; rw [split_mid l i hi]
  rw [sel_append, sel_append, sel_one, if_neg (fun h => ed (by rw [← h, hc])), List.nil_append]
theorem Good.mem {l : List R} (h : Good (sel l)) {r : R} (hr : r ∈ l) : 0 ≤ r.p ∧ r.p < 7 := by
 apply Decidable.byContradiction
 intro hn
 have := h.out r.p (by omega)
 unfold sel at this
 rw [List.map_eq_nil_iff, List.filter_eq_nil_iff] at this
 exact this r hr (by simp)
end Go.Proofs.YtmboibipabkhaaaGreat.M
