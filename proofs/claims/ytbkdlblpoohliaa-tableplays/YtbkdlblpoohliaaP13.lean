/-
  Two tables that go alike; what live handles are of; how many there are.
-/
import Derived.Test.YtbkdlblpoohliaaN13
namespace Go.Proofs.Ytbkdlblpoohliaa.M
set_option linter.unusedVariables false

section
variable {V W : Type} {K : Int}
def ug13 (e : Te V) : Bool × Nat := (e.u, e.g)
/-- Two tables that go alike, but for their things. -/
structure Mir (S : Tt V) (U : Tt W) : Prop where
  f : U.f = S.f
  s : U.s.map ug13 = S.s.map ug13
variable {S : Tt V} {U : Tt W}
theorem Mir.new : Mir (Tt.new : Tt V) (Tt.new : Tt W) := ⟨rfl, rfl⟩
theorem Mir.len (h : Mir S U) : U.s.length = S.s.length := by have := congrArg List.length h.s; simpa using this
theorem Mir.get (h : Mir S U) (i : Nat) : (U.s[i]?).map ug13 = (S.s[i]?).map ug13 := by rw [← List.getElem?_map, ← List.getElem?_map, h.s]
theorem Mir.some (h : Mir S U) {i : Nat} {e : Te V} (he : S.s[i]? = some e) : ∃ e' : Te W, U.s[i]? = some e' ∧ e'.u = e.u ∧ e'.g = e.g := by
  have := h.get i
  rw [he] at this
  obtain ⟨e', h1, h2⟩ := Option.map_eq_some_iff.1 this
  exact ⟨e', h1, congrArg (·.1) h2, congrArg (·.2) h2⟩
theorem Mir.at' (h : Mir S U) : U.at' = S.at' := by unfold Tt.at'; rw [h.f, h.len]
theorem Mir.gn (h : Mir S U) : U.gn = S.gn := by
  have := h.get S.at'
  unfold Tt.gn
  rw [h.at']
  cases e1 : U.s[S.at']? with
  | none => rw [e1] at this; cases e2 : S.s[S.at']? with
    | none => rfl
    | some e => rw [e2] at this; cases this
  | some e' => rw [e1] at this; cases e2 : S.s[S.at']? with
    | none => rw [e2] at this; cases this
    | some e => rw [e2] at this; injection this with this; exact congrArg (·.2) this
theorem Mir.put (h : Mir S U) (v : V) (x : W) : Mir (S.put v) (U.put x) := by
  refine ⟨by show U.f.dropLast = S.f.dropLast; rw [h.f], ?_⟩
  show (putAt U.s U.at' ⟨true, U.gn, x⟩).map ug13 = (putAt S.s S.at' ⟨true, S.gn, v⟩).map ug13
  rw [h.at', h.gn]
  unfold putAt
  rw [h.len]
  split
  · rw [List.map_set, List.map_set, h.s]; rfl
  · rw [List.map_append, List.map_append, h.s]; rfl
theorem Mir.set (h : Mir S U) {i : Nat} {e : Te V} (he : S.s[i]? = Option.some e) (hu : e.u = true) (v : V) : Mir (S.set i v) U := by
  unfold Tt.set
  rw [he]
  refine ⟨h.f, ?_⟩
  show _ = (S.s.set i _).map ug13
  rw [List.map_set, h.s]
  refine List.ext_getElem? (fun j => ?_)
  rw [List.getElem?_set]
  split
  · next hj =>
    subst hj
    have hl := (List.getElem?_eq_some_iff.1 he).1
    rw [if_pos (by simpa using hl), List.getElem?_map, he]
    simp [ug13, hu]
  · rfl
theorem Mir.drop (h : Mir S U) (i : Nat) (z : V) (y : W) : Mir (S.drop z i) (U.drop y i) := by
  have := h.get i
  unfold Tt.drop
  cases e2 : S.s[i]? with
  | none =>
    rw [e2] at this
    cases e1 : U.s[i]? with
    | none => exact h
    | some e => rw [e1] at this; cases this
  | some e =>
    rw [e2] at this
    cases e1 : U.s[i]? with
    | none => rw [e1] at this; cases this
    | some e' =>
      rw [e1] at this
      injection this with this
      have hg : e'.g = e.g := congrArg (·.2) this
      refine ⟨by show U.f ++ [i] = S.f ++ [i]; rw [h.f], ?_⟩
      show (U.s.set i _).map ug13 = (S.s.set i _).map ug13
      rw [List.map_set, List.map_set, h.s, hg]
      rfl
theorem hnd_mir (K : Int) : ∀ (l : List (Te V)) (m : List (Te W)) (i : Nat), m.map ug13 = l.map ug13 → hnd K m i = hnd K l i := by
  intro l
  induction l with
  | nil => intro m i h; simp at h; subst h; rfl
  | cons e l ih =>
    intro m i h
    cases m with
    | nil => simp at h
    | cons e' m =>
      simp only [List.map_cons, List.cons.injEq] at h
      have hu : e'.u = e.u := congrArg (·.1) h.1
      have hg : e'.g = e.g := congrArg (·.2) h.1
      unfold hnd
      rw [hu, hg, ih m (i + 1) h.2]
theorem Mir.hs (h : Mir S U) (K : Int) : U.hs K = S.hs K := hnd_mir K _ _ 0 h.s
theorem Mir.liv (h : Mir S U) (K : Int) (P : Nat) : U.liv K P = S.liv K P := by
  have := h.get (huS P)
  unfold Tt.liv
  split
  · cases e1 : U.s[huS P]? with
    | none => rw [e1] at this; cases e2 : S.s[huS P]? with
      | none => rfl
      | some e => rw [e2] at this; cases this
    | some e' => rw [e1] at this; cases e2 : S.s[huS P]? with
      | none => rw [e2] at this; cases this
      | some e =>
        rw [e2] at this
        injection this with this
        have hu : e'.u = e.u := congrArg (·.1) this
        have hg : e'.g = e.g := congrArg (·.2) this
        simp only [hu, hg]
  · rfl
/-- What is known of each live handle's thing. -/
structure VR (S : Tt V) (lp : List (Nat × Nat)) (vs : List V) : Prop where
  len : vs.length = lp.length
  at' : ∀ (m : Nat) (p : Nat × Nat), lp[m]? = some p → ∃ v, vs[m]? = some v ∧ S.s[p.1]? = some ⟨true, p.2, v⟩
theorem VR.new : VR (Tt.new : Tt V) [] [] := ⟨rfl, by simp⟩
theorem VR.put {lp : List (Nat × Nat)} {vs : List V} (h : VR S lp vs) (hok : S.Ok K) (v : V) : VR (S.put v) (lp ++ [(S.at', S.gn)]) (vs ++ [v]) := by
  refine ⟨by simp [h.len], fun m p hp => ?_⟩
  rcases Nat.lt_or_ge m lp.length with hm | hm
  · rw [List.getElem?_append_left hm] at hp
    obtain ⟨y, h1, h2⟩ := h.at' m p hp
    refine ⟨y, by rw [List.getElem?_append_left (by have := h.len; omega)]; exact h1, ?_⟩
    rw [put_get hok, if_neg]
    · exact h2
    · intro e
      rw [e] at h2
      have := (at_dead hok h2).1
      cases this
  · have hm2 : m = lp.length := by
      have := (List.getElem?_eq_some_iff.1 hp).1
      simp at this
      omega
    subst hm2
    rw [List.getElem?_append_right (Nat.le_refl _)] at hp
    simp at hp
    subst hp
    refine ⟨v, by rw [← h.len]; simp, ?_⟩
    rw [put_get hok, if_pos rfl]
theorem VR.set {lp : List (Nat × Nat)} {vs : List V} (h : VR S lp vs) (hnd : (lp.map (·.1)).Nodup) {k : Nat} {p : Nat × Nat} (hk : lp[k]? = some p) (v : V) : VR (S.set p.1 v) lp (vs.set k v) := by
  obtain ⟨v0, h1, h2⟩ := h.at' k p hk
  have hkl := (List.getElem?_eq_some_iff.1 hk).1
  refine ⟨by simp [h.len], fun m q hq => ?_⟩
  obtain ⟨y, h3, h4⟩ := h.at' m q hq
  have hml := (List.getElem?_eq_some_iff.1 hq).1
  by_cases e : k = m
  · subst e
    rw [hk] at hq
    cases hq
    refine ⟨v, by rw [List.getElem?_set_self (by have := h.len; omega)], ?_⟩
    rw [set_get h2, if_pos rfl]
  · refine ⟨y, by rw [List.getElem?_set_ne e]; exact h3, ?_⟩
    rw [set_get h2, if_neg]
    · exact h4
    · intro e2
      apply e
      have i1 : (lp.map (·.1))[k]? = some p.1 := by rw [List.getElem?_map, hk]; rfl
      have i2 : (lp.map (·.1))[m]? = some p.1 := by rw [List.getElem?_map, hq, ← e2]; rfl
      exact (List.getElem?_inj (by simpa using hkl) hnd).1 (i1.trans i2.symm)
/-- The last thing in the place of another one. -/
def swp {α : Type} (l : List α) (k : Nat) : List α := match l.getLast? with | some x => (l.set k x).take (l.length - 1) | none => l
theorem swp_eq {α : Type} {l : List α} {x : α} (k : Nat) (h : l[l.length - 1]? = some x) : swp l k = (l.set k x).take (l.length - 1) := by
  unfold swp
  rw [List.getLast?_eq_getElem?, h]
theorem swp_get {α : Type} (l : List α) {k m : Nat} (hk : k < l.length) (h0 : l ≠ []) : (swp l k)[m]? = if m < l.length - 1 then (if m = k then l[l.length - 1]? else l[m]?) else none := by
  have hl : 0 < l.length := List.length_pos_iff.2 h0
  obtain ⟨x, hx⟩ : ∃ x, l[l.length - 1]? = some x := ⟨_, List.getElem?_eq_getElem (by omega)⟩
  rw [swp_eq k hx, List.getElem?_take]
  by_cases hm : m < l.length - 1
  · rw [if_pos hm, if_pos hm, List.getElem?_set]
    by_cases e : k = m
    · subst e; rw [if_pos rfl, if_pos (by omega), if_pos rfl, hx]
    · rw [if_neg e, if_neg (fun e2 => e e2.symm)]
  · rw [if_neg hm, if_neg hm]
theorem swp_length {α : Type} (l : List α) (k : Nat) (h0 : l ≠ []) : (swp l k).length = l.length - 1 := by
  have hl : 0 < l.length := List.length_pos_iff.2 h0
  obtain ⟨x, hx⟩ : ∃ x, l[l.length - 1]? = some x := ⟨_, List.getElem?_eq_getElem (by omega)⟩
  rw [swp_eq k hx]
  simp
theorem swp_perm {α : Type} (l : List α) {k : Nat} (hk : k < l.length) : (swp l k).Perm (l.take k ++ l.drop (k + 1)) := by
  obtain ⟨a, x, b, rfl, rfl⟩ : ∃ a x b, l = a ++ x :: b ∧ k = a.length := ⟨l.take k, l[k], l.drop (k + 1), by rw [List.getElem_cons_drop, List.take_append_drop], by simp; omega⟩
  have e1 : (a ++ x :: b).take a.length ++ (a ++ x :: b).drop (a.length + 1) = a ++ b := by simp [List.drop_append, List.drop_eq_nil_of_le]
  rw [e1]
  rcases List.eq_nil_or_concat b with rfl | ⟨b', y, rfl⟩
  · rw [swp_eq (x := x) _ (by simp)]
    simp
  · rw [List.concat_eq_append]
    rw [swp_eq (x := y) _ (by simp)]
    have : ((a ++ x :: (b' ++ [y])).set a.length y).take ((a ++ x :: (b' ++ [y])).length - 1) = a ++ y :: b' := by
      rw [List.set_append_right _ _ (Nat.le_refl _), Nat.sub_self, List.set_cons_zero]
      rw [show (a ++ x :: (b' ++ [y])).length - 1 = (a ++ y :: b').length by simp, show a ++ y :: (b' ++ [y]) = (a ++ y :: b') ++ [y] by simp, List.take_left]
    rw [this]
    refine List.Perm.append_left a ?_
    exact (List.perm_append_comm (l₁ := [y]) (l₂ := b'))
theorem Inv13.perm {S : Tt V} {x : V} {lp lp' sp : List (Nat × Nat)} {k : Nat} (h : Inv13 S x lp sp k) (hp : lp'.Perm lp) : Inv13 S x lp' sp k :=
  ⟨h.gk, fun p hp' => h.lv p (hp.mem_iff.1 hp'), (hp.map (·.1)).nodup_iff.2 h.nd, h.st, by rw [hp.length_eq]; exact h.cnt⟩
theorem Inv13.swap {S : Tt V} {x z : V} {lp sp : List (Nat × Nat)} {k q : Nat} {p : Nat × Nat} (h : Inv13 S x lp sp k) (hq : lp[q]? = some p) (hk : k < 1000000) : Inv13 (S.drop z p.1) x (swp lp q) (sp ++ [p]) (k + 1) :=
  (h.drop hq hk z).perm (swp_perm lp (List.getElem?_eq_some_iff.1 hq).1)
theorem VR.drop {S : Tt V} {lp : List (Nat × Nat)} {vs : List V} (h : VR S lp vs) (hnd : (lp.map (·.1)).Nodup) {k : Nat} {p : Nat × Nat} (hk : lp[k]? = some p) (z : V) : VR (S.drop z p.1) (swp lp k) (swp vs k) := by
  obtain ⟨v0, h1, h2⟩ := h.at' k p hk
  have hkl := (List.getElem?_eq_some_iff.1 hk).1
  have n1 : lp ≠ [] := fun e => by rw [e] at hkl; simp at hkl
  have n2 : vs ≠ [] := fun e => by have := h.len; rw [e] at this; simp at this; omega
  have hl := h.len
  refine ⟨by rw [swp_length _ _ n1, swp_length _ _ n2, hl], fun m q hq => ?_⟩
  rw [swp_get lp hkl n1] at hq
  rw [swp_get vs (by omega) n2, hl]
  have key : ∀ m', m' ≠ k → lp[m']? = some q → ∃ v, vs[m']? = some v ∧ (S.drop z p.1).s[q.1]? = some ⟨true, q.2, v⟩ := fun m' hne hq' => by
    obtain ⟨y, h3, h4⟩ := h.at' m' q hq'
    refine ⟨y, h3, ?_⟩
    rw [drop_get h2, if_neg]
    · exact h4
    · intro e2
      apply hne
      have i1 : (lp.map (·.1))[k]? = some p.1 := by rw [List.getElem?_map, hk]; rfl
      have i2 : (lp.map (·.1))[m']? = some p.1 := by rw [List.getElem?_map, hq', ← e2]; rfl
      exact ((List.getElem?_inj (by simpa using hkl) hnd).1 (i1.trans i2.symm)).symm
  by_cases hm : m < lp.length - 1
  · rw [if_pos hm] at hq ⊢
    by_cases e : m = k
    · rw [if_pos e] at hq ⊢
      have := key (lp.length - 1) (by omega) hq
      exact this
    · rw [if_neg e] at hq ⊢
      exact key m e hq
  · rw [if_neg hm] at hq
    cases hq
/-- The slots that are free, from one on. -/
def un13 : List (Te V) → Nat → List Nat
  | [], _ => []
  | e :: l, i => if e.u = true then un13 l (i + 1) else i :: un13 l (i + 1)
theorem un_mem (l : List (Te V)) : ∀ i x, x ∈ un13 l i ↔ i ≤ x ∧ ∃ e, l[x - i]? = some e ∧ e.u = false := by
  induction l with
  | nil => intro i x; simp [un13]
  | cons e l ih =>
    intro i x
    unfold un13
    have step : i + 1 ≤ x → (e :: l)[x - i]? = l[x - (i + 1)]? := fun h => by rw [show x - i = (x - (i + 1)) + 1 by omega, List.getElem?_cons_succ]
    by_cases hu : e.u = true
    · rw [if_pos hu, ih]
      constructor
      · rintro ⟨h1, y, h2, h3⟩
        exact ⟨by omega, y, by rw [step h1]; exact h2, h3⟩
      · rintro ⟨h1, y, h2, h3⟩
        rcases Nat.eq_or_lt_of_le h1 with h4 | h4
        · subst h4
          simp at h2
          subst h2
          rw [hu] at h3; cases h3
        · exact ⟨h4, y, by rw [← step h4]; exact h2, h3⟩
    · rw [if_neg hu, List.mem_cons, ih]
      constructor
      · rintro (rfl | ⟨h1, y, h2, h3⟩)
        · exact ⟨Nat.le_refl _, e, by simp, by simpa using hu⟩
        · exact ⟨by omega, y, by rw [step h1]; exact h2, h3⟩
      · rintro ⟨h1, y, h2, h3⟩
        rcases Nat.eq_or_lt_of_le h1 with h4 | h4
        · exact .inl h4.symm
        · exact .inr ⟨h4, y, by rw [← step h4]; exact h2, h3⟩
theorem un_nodup (l : List (Te V)) : ∀ i, (un13 l i).Nodup := by
  induction l with
  | nil => intro i; simp [un13]
  | cons e l ih =>
    intro i
    unfold un13
    split
    · exact ih _
    · refine List.nodup_cons.2 ⟨fun h => ?_, ih _⟩
      have := ((un_mem l (i + 1) i).1 h).1
      omega
theorem un_length (K : Int) (l : List (Te V)) : ∀ i, (hnd K l i).length + (un13 l i).length = l.length := by
  induction l with
  | nil => intro i; rfl
  | cons e l ih =>
    intro i
    have := ih (i + 1)
    unfold hnd un13
    split <;> simp <;> omega
theorem sub_le : ∀ (m l : List Nat), l.Nodup → (∀ x ∈ l, x ∈ m) → l.length ≤ m.length := by
  intro m
  induction m with
  | nil => intro l _ h; cases l with
    | nil => simp
    | cons a l => exact absurd (h a (by simp)) (by simp)
  | cons a m ih =>
    intro l hn h
    by_cases ha : a ∈ l
    · have h1 := ih (l.erase a) (hn.erase a) (fun x hx => by
        have h2 := (hn.mem_erase_iff).1 hx
        rcases List.mem_cons.1 (h x h2.2) with e | e
        · exact absurd e h2.1
        · exact e)
      rw [List.length_erase_of_mem ha] at h1
      have := List.length_pos_of_mem ha
      simp
      omega
    · have := ih l hn (fun x hx => by
        rcases List.mem_cons.1 (h x hx) with e | e
        · exact absurd (e ▸ hx) ha
        · exact e)
      simp
      omega
/-- There are as many handles as slots that aren't free. -/
theorem Tt.Ok.hs_len {S : Tt V} (h : S.Ok K) (K' : Int) : (S.hs K').length + S.f.length = S.s.length := by
  have h1 := un_length K' S.s 0
  have h2 := sub_le (un13 S.s 0) S.f h.nd (fun x hx => by
    obtain ⟨e, he, hu⟩ := h.fr x hx
    exact (un_mem _ _ _).2 ⟨by omega, e, by simpa using he, hu⟩)
  have h3 := sub_le S.f (un13 S.s 0) (un_nodup _ _) (fun x hx => by
    obtain ⟨_, e, he, hu⟩ := (un_mem _ _ _).1 hx
    exact h.al x e (by simpa using he) hu)
  unfold Tt.hs
  omega
end
end Go.Proofs.Ytbkdlblpoohliaa.M
