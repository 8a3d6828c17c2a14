/-
  Handles that are live, and handles that were.
-/
import Derived.Test.YtbkdlblpoohliaaK13
namespace Go.Proofs.Ytbkdlblpoohliaa.M
set_option linter.unusedVariables false

/-- A fact that no tactic looks into ('Hid' is laid open by 'contradiction'). -/
structure Shut13 (p : Prop) : Prop where
  out : p
def hnds (K : Int) (l : List (Nat × Nat)) : List Int := l.map fun p => hpV K (p.1 : Int) (p.2 : Int)
theorem hnds_append (K : Int) (a b : List (Nat × Nat)) : hnds K (a ++ b) = hnds K a ++ hnds K b := by simp [hnds]
theorem hnds_at {K : Int} {l : List (Nat × Nat)} {j : Nat} {p : Nat × Nat} (h : l[j]? = some p) : (hnds K l)[j]? = some (hpV K (p.1 : Int) (p.2 : Int)) := by unfold hnds; rw [List.getElem?_map, h]; rfl
theorem hnds_length (K : Int) (l : List (Nat × Nat)) : (hnds K l).length = l.length := by simp [hnds]
theorem hnds_take (K : Int) (l : List (Nat × Nat)) (k : Nat) : hnds K (l.take k) = (hnds K l).take k := by simp [hnds, List.map_take]
theorem hnds_drop (K : Int) (l : List (Nat × Nat)) (k : Nat) : hnds K (l.drop k) = (hnds K l).drop k := by simp [hnds, List.map_drop]
/-- What is live ('lp') and what was ('sp'), by slots and generations. -/
structure Inv13 {V : Type} (S : Tt V) (x : V) (lp sp : List (Nat × Nat)) (k : Nat) : Prop where
  gk : ∀ (i : Nat) (e : Te V), S.s[i]? = some e → e.g ≤ k
  lv : ∀ p ∈ lp, S.s[p.1]? = some ⟨true, p.2, x⟩
  nd : (lp.map (·.1)).Nodup
  st : ∀ p ∈ sp, ∃ e : Te V, S.s[p.1]? = some e ∧ p.2 < e.g
  cnt : lp.length + S.f.length = S.s.length
section
variable {V : Type} {S : Tt V} {x z : V} {lp sp : List (Nat × Nat)} {k : Nat} {K : Int}
theorem inv_new (x : V) : Inv13 (Tt.new : Tt V) x [] [] 0 := ⟨by simp [Tt.new], by simp, by simp, by simp, rfl⟩
theorem Inv13.more {k' : Nat} (h : Inv13 S x lp sp k) (hk : k ≤ k') : Inv13 S x lp sp k' := ⟨fun i e he => Nat.le_trans (h.gk i e he) hk, h.lv, h.nd, h.st, h.cnt⟩
theorem Inv13.gn_le (h : Inv13 S x lp sp k) : S.gn ≤ k := by
  unfold Tt.gn
  split
  · next e he => exact h.gk _ e he
  · omega
theorem at_dead (hok : S.Ok K) {e : Te V} (he : S.s[S.at']? = some e) : e.u = false ∧ e.g = S.gn := by
  refine ⟨?_, (gn_of he).symm⟩
  rcases List.eq_nil_or_concat S.f with e1 | ⟨l, i, e1⟩
  · rw [at_nil e1, List.getElem?_eq_none (Nat.le_refl _)] at he; cases he
  · rw [List.concat_eq_append] at e1
    rw [at_snoc e1] at he
    obtain ⟨y, hy, hu⟩ := hok.fr i (by rw [e1]; simp)
    rw [he] at hy; cases hy
    exact hu
theorem Inv13.at_new (h : Inv13 S x lp sp k) (hok : S.Ok K) : ∀ p ∈ lp, p.1 ≠ S.at' := fun p hp e => by
  have := h.lv p hp
  rw [e] at this
  have := (at_dead hok this).1
  cases this
theorem Inv13.put (h : Inv13 S x lp sp k) (hok : S.Ok K) : Inv13 (S.put x) x (lp ++ [(S.at', S.gn)]) sp k := by
  have hg := put_get hok x
  refine ⟨fun i e he => ?_, fun p hp => ?_, ?_, fun p hp => ?_, ?_⟩
  · rw [hg] at he
    split at he
    · cases he; exact h.gn_le
    · exact h.gk i e he
  · rw [hg]
    rcases List.mem_append.1 hp with h1 | h1
    · rw [if_neg (h.at_new hok p h1)]; exact h.lv p h1
    · rw [List.mem_singleton.1 h1, if_pos rfl]
  · rw [List.map_append]
    refine List.nodup_append.2 ⟨h.nd, by simp, fun a ha b hb => ?_⟩
    obtain ⟨p, hp, rfl⟩ := List.mem_map.1 ha
    simp at hb
    subst hb
    exact h.at_new hok p hp
  · obtain ⟨e, he, hlt⟩ := h.st p hp
    rw [hg]
    by_cases e1 : p.1 = S.at'
    · rw [if_pos e1]
      rw [e1] at he
      exact ⟨_, rfl, by rw [← (at_dead hok he).2]; exact hlt⟩
    · rw [if_neg e1]; exact ⟨e, he, hlt⟩
  · rw [put_length hok, List.length_append]
    have := h.cnt
    show _ + S.f.dropLast.length = _
    rw [List.length_dropLast]
    split
    · next e => rw [e] at this ⊢; simp at this ⊢; omega
    · next e =>
      have : 0 < S.f.length := List.length_pos_iff.2 e
      simp; omega
theorem Inv13.drop (h : Inv13 S x lp sp k) {q : Nat} {p : Nat × Nat} (hq : lp[q]? = some p) (hk : k < 1000000) (z : V) : Inv13 (S.drop z p.1) x (lp.take q ++ lp.drop (q + 1)) (sp ++ [p]) (k + 1) := by
  have hp : p ∈ lp := List.mem_of_getElem? hq
  have he := h.lv p hp
  have hg := fun j => drop_get (j := j) he z
  have hgk := h.gk _ _ he
  simp only at hgk
  have hnx : nx p.2 = p.2 + 1 := by unfold nx; rw [if_pos (by omega)]
  have esplit : lp = lp.take q ++ p :: lp.drop (q + 1) := by
    obtain ⟨hi, rfl⟩ := List.getElem?_eq_some_iff.1 hq
    rw [List.getElem_cons_drop, List.take_append_drop]
  have hnd := h.nd
  rw [esplit, List.map_append, List.map_cons] at hnd
  have hnd2 := List.nodup_append.1 hnd
  have hne : ∀ r ∈ lp.take q ++ lp.drop (q + 1), r.1 ≠ p.1 := fun r hr => by
    rcases List.mem_append.1 hr with h1 | h1
    · exact hnd2.2.2 r.1 (List.mem_map.2 ⟨r, h1, rfl⟩) p.1 (by simp)
    · intro e
      have := List.nodup_cons.1 hnd2.2.1
      exact this.1 (by rw [← e]; exact List.mem_map.2 ⟨r, h1, rfl⟩)
  have hmem : ∀ r ∈ lp.take q ++ lp.drop (q + 1), r ∈ lp := fun r hr => by
    rcases List.mem_append.1 hr with h1 | h1
    · exact List.mem_of_mem_take h1
    · exact List.mem_of_mem_drop h1
  refine ⟨fun i e hi => ?_, fun r hr => ?_, ?_, fun r hr => ?_, ?_⟩
  · rw [hg] at hi
    split at hi
    · cases hi; show nx p.2 ≤ _; omega
    · have := h.gk i e hi; omega
  · rw [hg, if_neg (hne r hr)]
    exact h.lv r (hmem r hr)
  · rw [List.map_append]
    refine List.nodup_append.2 ⟨hnd2.1, (List.nodup_cons.1 hnd2.2.1).2, fun a ha b hb => hnd2.2.2 a ha b (List.mem_cons_of_mem _ hb)⟩
  · rw [hg]
    rcases List.mem_append.1 hr with h1 | h1
    · obtain ⟨e, he2, hlt⟩ := h.st r h1
      by_cases e1 : r.1 = p.1
      · rw [if_pos e1]
        rw [e1, he] at he2
        cases he2
        exact ⟨_, rfl, by show _ < nx p.2; simp only at hlt; omega⟩
      · rw [if_neg e1]; exact ⟨e, he2, hlt⟩
    · rw [List.mem_singleton.1 h1, if_pos rfl]
      exact ⟨_, rfl, by show _ < nx p.2; omega⟩
  · rw [drop_len, drop_f he]
    have := h.cnt
    have hql : q < lp.length := (List.getElem?_eq_some_iff.1 hq).1
    simp
    omega
/-- A live handle, as a number. -/
theorem Inv13.live (h : Inv13 S x lp sp k) (hK : kOk K) (hl : S.s.length ≤ 1000) (hk : k ≤ 1000) {p : Nat × Nat} (hp : p ∈ lp) :
    ∃ P : Nat, hpV K (p.1 : Int) (p.2 : Int) = (P : Int) ∧ P < 18446744073709551616 ∧ S.liv K P = some p.1 ∧ S.s[p.1]? = some ⟨true, p.2, x⟩ := by
  have he := h.lv p hp
  have h1 := (List.getElem?_eq_some_iff.1 he).1
  have h2 := h.gk _ _ he
  simp only at h2
  have a1 := hK.1
  have a2 := hK.2
  obtain ⟨P, hP, h64, hb, hk', hs, hg⟩ := hpV_parts (K := K) (s := (p.1 : Int)) (g := (p.2 : Int)) ⟨a1, a2, by omega, by omega, by omega, by omega⟩
  have es : huS P = p.1 := by omega
  refine ⟨P, hP, h64, ?_, he⟩
  rw [← es]
  exact liv_of hb (by rw [es]; exact he) rfl hk' (by show p.2 = _; omega)
theorem Inv13.dead (h : Inv13 S x lp sp k) (hK : kOk K) (hl : S.s.length ≤ 1000) (hk : k ≤ 1000) {p : Nat × Nat} (hp : p ∈ sp) :
    ∃ P : Nat, hpV K (p.1 : Int) (p.2 : Int) = (P : Int) ∧ P < 18446744073709551616 ∧ S.liv K P = none := by
  obtain ⟨e, he, hlt⟩ := h.st p hp
  have h1 := (List.getElem?_eq_some_iff.1 he).1
  have h2 := h.gk _ _ he
  have a1 := hK.1
  have a2 := hK.2
  obtain ⟨P, hP, h64, hb, hk', hs, hg⟩ := hpV_parts (K := K) (s := (p.1 : Int)) (g := (p.2 : Int)) ⟨a1, a2, by omega, by omega, by omega, by omega⟩
  have es : huS P = p.1 := by omega
  refine ⟨P, hP, h64, liv_none_of (fun i hi => ?_)⟩
  obtain ⟨rfl, y, hy, hu, _, hyg⟩ := (liv_iff hb).1 hi
  rw [es, he] at hy
  cases hy
  omega
/-- A new handle is none of those that are live. -/
theorem Inv13.fresh (h : Inv13 S x lp sp k) (hok : S.Ok K) (hK : kOk K) (hl : S.s.length ≤ 1000) (hk : k ≤ 1000) {p : Nat × Nat} (hp : p ∈ lp) : hpV K (p.1 : Int) (p.2 : Int) ≠ hpV K (S.at' : Int) (S.gn : Int) := by
  have he := h.lv p hp
  have h1 := (List.getElem?_eq_some_iff.1 he).1
  have h2 := h.gk _ _ he
  have h3 := h.gn_le
  have h4 := hok.at_le
  simp only at h2
  have a1 := hK.1
  have a2 := hK.2
  have h5 := h.at_new hok p hp
  rw [hpV_yes _ _ _ ⟨a1, a2, by omega, by omega, by omega, by omega⟩, hpV_yes _ _ _ ⟨a1, a2, by omega, by omega, by omega, by omega⟩]
  omega
end
end Go.Proofs.Ytbkdlblpoohliaa.M
