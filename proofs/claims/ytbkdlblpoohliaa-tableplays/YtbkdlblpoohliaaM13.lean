/-
  Plain mathematics of tables: no program in sight.
-/
import Derived.Test.YtbkdlblpoohliaaM12
namespace Go.Proofs.Ytbkdlblpoohliaa.M

/-- A slot: whether it is used, its generation, its thing. -/
structure Te (V : Type) where
  u : Bool
  g : Nat
  v : V
/-- A table: its slots, and those that are free, in the order in which they were freed. -/
structure Tt (V : Type) where
  s : List (Te V)
  f : List Nat
def kd (K : Int) (u : Bool) : Int := if u = true then K else 0
def kOk (K : Int) : Prop := 1 ≤ K ∧ K ≤ 3
instance (K : Int) : Decidable (kOk K) := inferInstanceAs (Decidable (1 ≤ K ∧ K ≤ 3))
/-- The generation behind one. -/
def nx (g : Nat) : Nat := if g < 1073741823 then g + 1 else 0
theorem nx_hn (g : Nat) : hnV (g : Int) = (nx g : Nat) := by
  unfold nx
  by_cases h : g < 1073741823
  · rw [if_pos h, hnV_yes _ (by omega)]; omega
  · rw [if_neg h, hnV_no _ (by omega)]; rfl
theorem nx_lt {g : Nat} (h : g < 1073741824) : nx g < 1073741824 := by unfold nx; split <;> omega

section
variable {V : Type}
def Tt.new : Tt V := ⟨[], []⟩
/-- The slot for one thing more. -/
def Tt.at' (S : Tt V) : Nat := match S.f.getLast? with | some i => i | none => S.s.length
/-- .. its generation. -/
def Tt.gn (S : Tt V) : Nat := match S.s[S.at']? with | some e => e.g | none => 0
/-- .. the table, with the slot taken. -/
def Tt.room (S : Tt V) (z : V) : Tt V := ⟨if S.f = [] then S.s ++ [⟨false, 0, z⟩] else S.s, S.f.dropLast⟩
def putAt (l : List (Te V)) (i : Nat) (e : Te V) : List (Te V) := if i < l.length then l.set i e else l ++ [e]
def Tt.put (S : Tt V) (v : V) : Tt V := ⟨putAt S.s S.at' ⟨true, S.gn, v⟩, S.f.dropLast⟩
def Tt.add (K : Int) (S : Tt V) (v : V) : Tt V := if kOk K then S.put v else S
/-- A handle's slot. -/
def Tt.liv (K : Int) (S : Tt V) (h : Nat) : Option Nat :=
  if huB h = true then match S.s[huS h]? with
    | some e => if e.u = true ∧ (huK h : Int) = K ∧ e.g = huG h then some (huS h) else none
    | none => none
  else none
def Tt.set (S : Tt V) (i : Nat) (v : V) : Tt V := match S.s[i]? with | some e => ⟨S.s.set i ⟨true, e.g, v⟩, S.f⟩ | none => S
def Tt.drop (z : V) (S : Tt V) (i : Nat) : Tt V := match S.s[i]? with | some e => ⟨S.s.set i ⟨false, nx e.g, z⟩, S.f ++ [i]⟩ | none => S
def Tt.setH (K : Int) (S : Tt V) (h : Nat) (v : V) : Tt V := match S.liv K h with | some i => S.set i v | none => S
def Tt.dropH (K : Int) (z : V) (S : Tt V) (h : Nat) : Tt V := match S.liv K h with | some i => S.drop z i | none => S
def Tt.get (K : Int) (S : Tt V) (h : Nat) : Option V := match S.liv K h with | some i => (S.s[i]?).map (·.v) | none => none
/-- The handles of slots from one on. -/
def hnd (K : Int) : List (Te V) → Nat → List Int
  | [], _ => []
  | e :: l, i => if e.u = true then hpV K (i : Int) (e.g : Int) :: hnd K l (i + 1) else hnd K l (i + 1)
def Tt.hs (K : Int) (S : Tt V) : List Int := hnd K S.s 0

/-- What holds of each table behind some calls. -/
structure Tt.Ok (K : Int) (S : Tt V) : Prop where
  fr : ∀ i ∈ S.f, ∃ e : Te V, S.s[i]? = some e ∧ e.u = false
  nd : S.f.Nodup
  al : ∀ (i : Nat) (e : Te V), S.s[i]? = some e → e.u = false → i ∈ S.f
  gn : ∀ (i : Nat) (e : Te V), S.s[i]? = some e → e.g < 1073741824
  kn : S.s ≠ [] → kOk K

theorem liv_some {K : Int} {S : Tt V} {h i : Nat} (e : S.liv K h = some i) : huB h = true ∧ i = huS h ∧ ∃ x, S.s[i]? = some x ∧ x.u = true ∧ (huK h : Int) = K ∧ x.g = huG h := by
  unfold Tt.liv at e
  split at e
  · next hb =>
    split at e
    · next x hx =>
      split at e
      · next hc => cases e; exact ⟨hb, rfl, x, hx, hc⟩
      · cases e
    · cases e
  · cases e
theorem liv_of {K : Int} {S : Tt V} {h : Nat} {x : Te V} (hb : huB h = true) (hx : S.s[huS h]? = some x) (hu : x.u = true) (hk : (huK h : Int) = K) (hg : x.g = huG h) : S.liv K h = some (huS h) := by
  unfold Tt.liv
  rw [if_pos hb, hx]
  simp only
  rw [if_pos ⟨hu, hk, hg⟩]
theorem liv_dead {K : Int} {S : Tt V} {h : Nat} (hb : huB h = false) : S.liv K h = none := by
  unfold Tt.liv; rw [hb]; rfl
theorem liv_out {K : Int} {S : Tt V} {h : Nat} (hx : S.s.length ≤ huS h) : S.liv K h = none := by
  unfold Tt.liv
  rw [List.getElem?_eq_none hx]
  split <;> rfl
theorem liv_other {K : Int} {S : Tt V} {h : Nat} {x : Te V} (hx : S.s[huS h]? = some x) (hn : ¬ (kd K x.u = (huK h : Int) ∧ (x.g : Int) = (huG h : Int))) (hb : huB h = true) : S.liv K h = none := by
  unfold Tt.liv
  rw [if_pos hb, hx]
  simp only
  rw [if_neg]
  rintro ⟨h1, h2, h3⟩
  exact hn ⟨by rw [kd, if_pos h1, h2], by rw [h3]⟩
theorem huK_pos {h : Nat} (hb : huB h = true) : 1 ≤ huK h := by
  have := (huK_zero h)
  have h2 : 4611686018427387904 ≤ h := of_decide_eq_true hb
  omega
theorem liv_same {K : Int} {S : Tt V} {h : Nat} {x : Te V} (hx : S.s[huS h]? = some x) (hn : kd K x.u = (huK h : Int) ∧ (x.g : Int) = (huG h : Int)) (hb : huB h = true) : S.liv K h = some (huS h) := by
  have := huK_pos hb
  have hu : x.u = true := by
    cases e : x.u with
    | true => rfl
    | false => rw [e] at hn; have := hn.1; simp [kd] at this; omega
  refine liv_of hb hx hu ?_ (by omega)
  have := hn.1
  rw [kd, if_pos hu] at this
  exact this.symm
theorem hpV_parts {K s g : Int} (h : 1 ≤ K ∧ K ≤ 3 ∧ 0 ≤ s ∧ s < 4294967296 ∧ 0 ≤ g ∧ g < 1073741824) : ∃ p : Nat, hpV K s g = p ∧ p < 18446744073709551616 ∧ huB p = true ∧ (huK p : Int) = K ∧ (huS p : Int) = s ∧ (huG p : Int) = g := by
  have e := hpV_yes K s g h
  refine ⟨(hpV K s g).toNat, by omega, by omega, ?_⟩
  have hb : huB (hpV K s g).toNat = true := decide_eq_true (by omega)
  refine ⟨hb, ?_, ?_, ?_⟩
  · unfold huK; omega
  · unfold huS; rw [if_pos hb]; omega
  · unfold huG; rw [if_pos hb]; omega
theorem at_nil {S : Tt V} (h : S.f = []) : S.at' = S.s.length := by unfold Tt.at'; rw [h]; rfl
theorem at_snoc {S : Tt V} {l : List Nat} {i : Nat} (h : S.f = l ++ [i]) : S.at' = i := by unfold Tt.at'; rw [h]; simp
theorem gn_nil {S : Tt V} (h : S.f = []) : S.gn = 0 := by unfold Tt.gn; rw [at_nil h, List.getElem?_eq_none (Nat.le_refl _)]
theorem gn_of {S : Tt V} {e : Te V} (h : S.s[S.at']? = some e) : S.gn = e.g := by unfold Tt.gn; rw [h]
theorem Tt.Ok.at_le {K : Int} {S : Tt V} (h : S.Ok K) : S.at' ≤ S.s.length := by
  rcases List.eq_nil_or_concat S.f with e | ⟨l, i, e⟩
  · rw [at_nil e]; exact Nat.le_refl _
  · rw [List.concat_eq_append] at e
    rw [at_snoc e]
    obtain ⟨x, hx, _⟩ := h.fr i (by rw [e]; simp)
    exact Nat.le_of_lt (List.getElem?_eq_some_iff.1 hx).1
theorem Tt.Ok.gn_lt {K : Int} {S : Tt V} (h : S.Ok K) : S.gn < 1073741824 := by
  unfold Tt.gn
  split
  · next e he => exact h.gn _ e he
  · decide
theorem nodup_le : ∀ (n : Nat) (l : List Nat), l.Nodup → (∀ x ∈ l, x < n) → l.length ≤ n := by
  intro n
  induction n with
  | zero => intro l _ h; cases l with
    | nil => simp
    | cons a l => exact absurd (h a (by simp)) (by omega)
  | succ n ih =>
    intro l hn h
    by_cases hm : n ∈ l
    · have h1 := ih (l.erase n) (hn.erase n) (fun x hx => by
        have h2 := (hn.mem_erase_iff).1 hx
        have := h x h2.2
        omega)
      rw [List.length_erase_of_mem hm] at h1
      omega
    · have := ih l hn (fun x hx => by
        have := h x hx
        have : x ≠ n := fun e => hm (e ▸ hx)
        omega)
      omega
theorem Tt.Ok.f_le {K : Int} {S : Tt V} (h : S.Ok K) : S.f.length ≤ S.s.length :=
  nodup_le _ _ h.nd (fun i hi => by
    obtain ⟨x, hx, _⟩ := h.fr i hi
    exact (List.getElem?_eq_some_iff.1 hx).1)
theorem ok_new (K : Int) : (Tt.new : Tt V).Ok K := ⟨by simp [Tt.new], by simp [Tt.new], by simp [Tt.new], by simp [Tt.new], fun h => absurd rfl h⟩

theorem putAt_room {S : Tt V} {K : Int} (h : S.Ok K) (z : V) (e : Te V) : putAt S.s S.at' e = (S.room z).s.set S.at' e := by
  unfold putAt Tt.room
  rcases List.eq_nil_or_concat S.f with e1 | ⟨l, i, e1⟩
  · rw [at_nil e1, if_neg (Nat.lt_irrefl _), if_pos e1]
    simp
  · rw [List.concat_eq_append] at e1
    rw [at_snoc e1]
    obtain ⟨x, hx, _⟩ := h.fr i (by rw [e1]; simp)
    rw [if_pos (List.getElem?_eq_some_iff.1 hx).1, if_neg (by rw [e1]; simp)]
theorem room_at {S : Tt V} {K : Int} (h : S.Ok K) (z : V) : ∃ e, (S.room z).s[S.at']? = some e ∧ e.g = S.gn ∧ e.u = false := by
  unfold Tt.room
  rcases List.eq_nil_or_concat S.f with e1 | ⟨l, i, e1⟩
  · refine ⟨⟨false, 0, z⟩, ?_, (gn_nil e1).symm, rfl⟩
    rw [at_nil e1, if_pos e1]
    simp
  · rw [List.concat_eq_append] at e1
    obtain ⟨x, hx, hu⟩ := h.fr i (by rw [e1]; simp)
    have : S.s[S.at']? = some x := by rw [at_snoc e1]; exact hx
    refine ⟨x, ?_, (gn_of this).symm, hu⟩
    rw [if_neg (by rw [e1]; simp)]
    exact this
theorem put_length {S : Tt V} {K : Int} (h : S.Ok K) (v : V) : (S.put v).s.length = S.s.length + (if S.f = [] then 1 else 0) := by
  unfold Tt.put putAt
  rcases List.eq_nil_or_concat S.f with e1 | ⟨l, i, e1⟩
  · rw [at_nil e1, if_neg (Nat.lt_irrefl _), if_pos e1]
    simp
  · rw [List.concat_eq_append] at e1
    obtain ⟨x, hx, _⟩ := h.fr i (by rw [e1]; simp)
    rw [at_snoc e1, if_pos (List.getElem?_eq_some_iff.1 hx).1, if_neg (by rw [e1]; simp)]
    simp
theorem putAt_get {l : List (Te V)} {i j : Nat} {e : Te V} (hi : i ≤ l.length) : (putAt l i e)[j]? = if j = i then some e else l[j]? := by
  unfold putAt
  by_cases h : i < l.length
  · rw [if_pos h, List.getElem?_set]
    by_cases hj : i = j
    · subst hj; simp [h]
    · rw [if_neg hj, if_neg (fun h => hj (Eq.symm h))]
  · have e1 : i = l.length := by omega
    subst e1
    rw [if_neg h]
    by_cases hj : j = l.length
    · subst hj; simp
    · rw [if_neg hj]
      rcases Nat.lt_or_ge j l.length with h1 | h1
      · rw [List.getElem?_append_left h1]
      · rw [List.getElem?_eq_none (by simp; omega), List.getElem?_eq_none h1]
theorem put_get {S : Tt V} {K : Int} (h : S.Ok K) (v : V) (j : Nat) : (S.put v).s[j]? = if j = S.at' then some ⟨true, S.gn, v⟩ else S.s[j]? := putAt_get h.at_le
theorem ok_put {S : Tt V} {K : Int} (h : S.Ok K) (hK : kOk K) (v : V) : (S.put v).Ok K := by
  have hg := put_get h v
  have notlast : ∀ i, i ∈ S.f.dropLast → i ≠ S.at' := by
    intro i hi
    rcases List.eq_nil_or_concat S.f with e1 | ⟨l, j, e1⟩
    · rw [e1] at hi; simp at hi
    · rw [List.concat_eq_append] at e1
      rw [at_snoc e1]
      have hn := h.nd
      rw [e1] at hn hi
      rw [List.dropLast_concat] at hi
      rintro rfl
      exact (List.nodup_append.1 hn).2.2 i hi i (by simp) rfl
  refine ⟨fun i hi => ?_, ?_, fun i e he hu => ?_, fun i e he => ?_, fun _ => hK⟩
  · have hi' : i ∈ S.f.dropLast := hi
    obtain ⟨e, he, hu⟩ := h.fr i ((List.dropLast_sublist _).subset hi')
    exact ⟨e, by rw [hg, if_neg (notlast i hi')]; exact he, hu⟩
  · exact h.nd.sublist (List.dropLast_sublist _)
  · rw [hg] at he
    split at he
    · cases he; cases hu
    · next hne =>
      have := h.al i e he hu
      show i ∈ S.f.dropLast
      rcases List.eq_nil_or_concat S.f with e1 | ⟨l, j, e1⟩
      · rw [e1] at this; simp at this
      · rw [List.concat_eq_append] at e1
        rw [e1] at this ⊢
        rw [at_snoc e1] at hne
        rw [List.dropLast_concat]
        simp at this
        rcases this with h1 | h1
        · exact h1
        · exact absurd h1 hne
  · rw [hg] at he
    split at he
    · cases he; exact h.gn_lt
    · exact h.gn i e he
theorem ok_add {S : Tt V} {K : Int} (h : S.Ok K) (v : V) : (S.add K v).Ok K := by
  unfold Tt.add
  split
  · next hK => exact ok_put h hK v
  · exact h
theorem set_get {S : Tt V} {i j : Nat} {e : Te V} (he : S.s[i]? = some e) (v : V) : (S.set i v).s[j]? = if j = i then some ⟨true, e.g, v⟩ else S.s[j]? := by
  unfold Tt.set
  rw [he]
  simp only [List.getElem?_set]
  have := (List.getElem?_eq_some_iff.1 he).1
  by_cases hj : i = j
  · subst hj; simp [this]
  · rw [if_neg hj, if_neg (fun h => hj (Eq.symm h))]
theorem set_f {S : Tt V} {i : Nat} (v : V) : (S.set i v).f = S.f := by unfold Tt.set; split <;> rfl
theorem ok_set {S : Tt V} {K : Int} (h : S.Ok K) {i : Nat} {e : Te V} (he : S.s[i]? = some e) (hu : e.u = true) (v : V) : (S.set i v).Ok K := by
  have hg := fun j => set_get (j := j) he v
  refine ⟨fun j hj => ?_, by rw [set_f]; exact h.nd, fun j x hx hxu => ?_, fun j x hx => ?_, fun _ => h.kn (fun e => by rw [e] at he; simp at he)⟩
  · rw [set_f] at hj
    obtain ⟨x, hx, hxu⟩ := h.fr j hj
    refine ⟨x, ?_, hxu⟩
    rw [hg, if_neg]
    · exact hx
    · rintro rfl
      rw [he] at hx; cases hx; rw [hu] at hxu; cases hxu
  · rw [hg] at hx
    rw [set_f]
    split at hx
    · cases hx; cases hxu
    · exact h.al j x hx hxu
  · rw [hg] at hx
    split at hx
    · cases hx; exact h.gn i e he
    · exact h.gn j x hx
theorem ok_setH {S : Tt V} {K : Int} (h : S.Ok K) (hh : Nat) (v : V) : (S.setH K hh v).Ok K := by
  unfold Tt.setH
  split
  · next i hi => obtain ⟨_, _, x, hx, hu, _⟩ := liv_some hi; exact ok_set h hx hu v
  · exact h
theorem drop_get {S : Tt V} {i j : Nat} {e : Te V} (he : S.s[i]? = some e) (z : V) : (S.drop z i).s[j]? = if j = i then some ⟨false, nx e.g, z⟩ else S.s[j]? := by
  unfold Tt.drop
  rw [he]
  simp only [List.getElem?_set]
  have := (List.getElem?_eq_some_iff.1 he).1
  by_cases hj : i = j
  · subst hj; simp [this]
  · rw [if_neg hj, if_neg (fun h => hj (Eq.symm h))]
theorem drop_f {S : Tt V} {i : Nat} {e : Te V} (he : S.s[i]? = some e) (z : V) : (S.drop z i).f = S.f ++ [i] := by unfold Tt.drop; rw [he]
theorem ok_drop {S : Tt V} {K : Int} (h : S.Ok K) {i : Nat} {e : Te V} (he : S.s[i]? = some e) (hu : e.u = true) (z : V) : (S.drop z i).Ok K := by
  have hg := fun j => drop_get (j := j) he z
  have hni : i ∉ S.f := fun hi => by
    obtain ⟨x, hx, hxu⟩ := h.fr i hi
    rw [he] at hx; cases hx; rw [hu] at hxu; cases hxu
  refine ⟨fun j hj => ?_, ?_, fun j x hx hxu => ?_, fun j x hx => ?_, fun _ => h.kn (fun e => by rw [e] at he; simp at he)⟩
  · rw [drop_f he] at hj
    rw [hg]
    by_cases e1 : j = i
    · rw [if_pos e1]; exact ⟨_, rfl, rfl⟩
    · rw [if_neg e1]
      rcases List.mem_append.1 hj with h1 | h1
      · exact h.fr j h1
      · exact absurd (List.mem_singleton.1 h1) e1
  · rw [drop_f he]
    refine List.nodup_append.2 ⟨h.nd, by simp, fun a ha b hb => ?_⟩
    rw [List.mem_singleton.1 hb]
    rintro rfl
    exact hni ha
  · rw [hg] at hx
    rw [drop_f he]
    split at hx
    · next e1 => rw [e1]; simp
    · exact List.mem_append_left _ (h.al j x hx hxu)
  · rw [hg] at hx
    split at hx
    · cases hx; exact nx_lt (h.gn i e he)
    · exact h.gn j x hx
theorem ok_dropH {S : Tt V} {K : Int} (h : S.Ok K) (hh : Nat) (z : V) : (S.dropH K z hh).Ok K := by
  unfold Tt.dropH
  split
  · next i hi => obtain ⟨_, _, x, hx, hu, _⟩ := liv_some hi; exact ok_drop h hx hu z
  · exact h
theorem set_len {S : Tt V} (i : Nat) (v : V) : (S.set i v).s.length = S.s.length := by unfold Tt.set; split <;> simp
theorem drop_len {S : Tt V} (i : Nat) (z : V) : (S.drop z i).s.length = S.s.length := by unfold Tt.drop; split <;> simp
theorem add_len {S : Tt V} {K : Int} (h : S.Ok K) (v : V) : (S.add K v).s.length ≤ S.s.length + 1 := by
  unfold Tt.add
  split
  · rw [put_length h v]; split <;> omega
  · omega
theorem setH_len {S : Tt V} {K : Int} (h : Nat) (v : V) : (S.setH K h v).s.length = S.s.length := by
  unfold Tt.setH; split
  · exact set_len _ _
  · rfl
theorem dropH_len {S : Tt V} {K : Int} (h : Nat) (z : V) : (S.dropH K z h).s.length = S.s.length := by
  unfold Tt.dropH; split
  · exact drop_len _ _
  · rfl
theorem hnd_snoc (K : Int) (l : List (Te V)) (e : Te V) : ∀ i, hnd K (l ++ [e]) i = hnd K l i ++ (if e.u = true then [hpV K ((i + l.length : Nat) : Int) (e.g : Int)] else []) := by
  induction l with
  | nil => intro i; simp [hnd]
  | cons x l ih =>
    intro i
    simp only [List.cons_append, hnd, ih (i + 1), List.length_cons]
    rw [show i + 1 + l.length = i + (l.length + 1) by omega]
    split <;> simp
theorem hnd_length (K : Int) (l : List (Te V)) : ∀ i, (hnd K l i).length = l.countP (·.u) := by
  induction l with
  | nil => intro i; rfl
  | cons x l ih =>
    intro i
    unfold hnd
    by_cases h : x.u = true
    · rw [if_pos h, List.length_cons, ih, List.countP_cons_of_pos h]
    · rw [if_neg h, ih, List.countP_cons_of_neg h]
end
end Go.Proofs.Ytbkdlblpoohliaa.M
