/-
  The mathematics of runs: what is given back, by the program and by the document.
-/
import Derived.Test.YteiiiapjloincaaM5
namespace Go.Proofs.Yteiiiapjloincaa
set_option linter.unusedVariables false
namespace M

/-- How many runs begin below a page. -/
def cnt (p : Int) : List R → Nat
  | [] => 0
  | r :: l => if r.p < p then cnt p l + 1 else 0
theorem cnt_le (p : Int) (l : List R) : cnt p l ≤ l.length := by
  induction l with
  | nil => exact Nat.le_refl _
  | cons r l ih => unfold cnt; split <;> simp <;> omega
theorem cnt_below (p : Int) (l : List R) : ∀ j (h : j < l.length), j < cnt p l → l[j].p < p := by
  induction l with
  | nil => intro j h; simp at h
  | cons r l ih =>
    intro j h hc
    unfold cnt at hc
    split at hc
    · cases j with
      | zero => assumption
      | succ j => exact ih j (by simpa using h) (by omega)
    · omega
theorem cnt_at (p : Int) (l : List R) (h : cnt p l < l.length) : p ≤ l[cnt p l].p := by
  induction l with
  | nil => simp at h
  | cons r l ih =>
    by_cases c : r.p < p
    · have e : cnt p (r :: l) = cnt p l + 1 := by simp [cnt, c]
      simp only [e, List.getElem_cons_succ]
      exact ih (by rw [e] at h; simpa using h)
    · have e : cnt p (r :: l) = 0 := by simp [cnt, c]
      simp only [e, List.getElem_cons_zero]
      omega
theorem cnt_of (p : Int) : ∀ (l : List R) (k : Nat), k ≤ l.length → (∀ j (h : j < l.length), j < k → l[j].p < p) → (∀ h : k < l.length, p ≤ l[k].p) → k = cnt p l := by
  intro l
  induction l with
  | nil => intro k hk _ _; simpa [cnt] using hk
  | cons r l ih =>
    intro k hk h1 h2
    cases k with
    | zero => have := h2 (by simp); simp only [List.getElem_cons_zero] at this; unfold cnt; rw [if_neg (by omega)]
    | succ k =>
      have := h1 0 (by simp) (by omega)
      simp only [List.getElem_cons_zero] at this
      unfold cnt
      rw [if_pos this, ← ih k (by simpa using hk) (fun j hj hjk => by have := h1 (j + 1) (by simpa using hj) (by omega); simpa using this) (fun h => by have := h2 (by simpa using h); simpa using this)]

/-- Whether the run ahead ends at a page; whether the run behind begins there. -/
def jA (l : List R) (k : Nat) (p : Int) : Bool := decide (0 < k) && decide ((l.getD (k - 1) ⟨0, 0⟩).p + (l.getD (k - 1) ⟨0, 0⟩).n = p)
def jB (l : List R) (k : Nat) (e : Int) : Bool := decide (k < l.length) && decide ((l.getD k ⟨0, 0⟩).p = e)
/-- The program's answer, from the place k. -/
def gA (l : List R) (k : Nat) (p n : Int) : R := if jA l k p = true then ⟨(l.getD (k - 1) ⟨0, 0⟩).p, (l.getD (k - 1) ⟨0, 0⟩).n + n⟩ else ⟨p, n⟩
def gB (l : List R) (k : Nat) (g : R) : R := if jB l k (g.p + g.n) = true then ⟨g.p, g.n + (l.getD k ⟨0, 0⟩).n⟩ else g
def fromA (l : List R) (k : Nat) (p : Int) : Nat := if jA l k p = true then k - 1 else k
def toB (l : List R) (k : Nat) (g : R) : Nat := if jB l k (g.p + g.n) = true then k + 1 else k
def give (l : List R) (p n : Int) : List R :=
  let k := cnt p l
  let g := gA l k p n
  l.take (fromA l k p) ++ (gB l k g :: l.drop (toB l k g))

/-- A run that is put between lists, ahead of which and behind which there is room. -/
theorem put_ok {N a p n : Int} {A B : List R} (hA : Ok a N A) (h1 : endOf a A < p) (h0 : 0 ≤ p) (hn : 1 ≤ n) (hN : p + n ≤ N) (hB : Ok (p + n) N B) : Ok a N (A ++ (⟨p, n⟩ :: B)) :=
  (Ok_append _ _ _).2 ⟨hA, h1, h0, hn, hN, hB⟩
theorem getD_mem (l : List R) (k : Nat) (h : k < l.length) : l.getD k ⟨0, 0⟩ ∈ l := by
  have : l.getD k ⟨0, 0⟩ = l[k] := by simp [List.getD, List.getElem?_eq_getElem h]
  rw [this]
  exact List.getElem_mem h
theorem getD_at (l : List R) (k : Nat) (h : k < l.length) : l.getD k ⟨0, 0⟩ = l[k] := by simp [List.getD, List.getElem?_eq_getElem h]
theorem drop_cons (l : List R) (k : Nat) (h : k < l.length) : l.drop k = l.getD k ⟨0, 0⟩ :: l.drop (k + 1) := by rw [getD_at l k h]; exact List.drop_eq_getElem_cons h
theorem take_snoc (l : List R) (k : Nat) (h0 : 0 < k) (h : k ≤ l.length) : l.take k = l.take (k - 1) ++ [l.getD (k - 1) ⟨0, 0⟩] := by
  obtain ⟨k, rfl⟩ : ∃ j, k = j + 1 := ⟨k - 1, by omega⟩
  rw [Nat.add_sub_cancel, getD_at l k (by omega), List.take_succ_eq_append_getElem (by omega)]

theorem give_ok {N : Int} {l : List R} {p n : Int} (h : Ok (-1) N l) (hp : 0 ≤ p) (hn : 1 ≤ n) (hN : p + n ≤ N) (hh : has l p n = false) :
    Ok (-1) N (give l p n) ∧ total (give l p n) = total l + n ∧ ∀ x, Pg (give l p n) x ↔ Pg l x ∨ (p ≤ x ∧ x < p + n) := by
  have hk := cnt_le p l
  have hbel := cnt_below p l
  have hat := cnt_at p l
  unfold give
  simp only
  generalize cnt p l = k at *
  have el : l = l.take k ++ l.drop k := (List.take_append_drop k l).symm
  have hok := h
  rw [el, Ok_append] at hok
  obtain ⟨oA, oB⟩ := hok
  have far : ∀ r ∈ l, r.p + r.n ≤ p ∨ p + n ≤ r.p := fun r hr => has_far hn hh hr
  have one : ∀ r ∈ l, 0 ≤ r.p ∧ 1 ≤ r.n ∧ r.p + r.n ≤ N := fun r hr => (h.mem r hr).2
  -- what stands ahead ends at p or below
  have ends : 0 < k → endOf (-1) (l.take k) = (l.getD (k - 1) ⟨0, 0⟩).p + (l.getD (k - 1) ⟨0, 0⟩).n ∧ (l.getD (k - 1) ⟨0, 0⟩).p + (l.getD (k - 1) ⟨0, 0⟩).n ≤ p := fun h0 => by
    rw [take_snoc l k h0 hk, endOf_append]
    refine ⟨rfl, ?_⟩
    have h1 := hbel (k - 1) (by omega) (by omega)
    have h2 := far _ (getD_mem l (k - 1) (by omega))
    rw [← getD_at l (k - 1) (by omega)] at h1
    omega
  have begs : k < l.length → p + n ≤ (l.getD k ⟨0, 0⟩).p := fun h0 => by
    have h1 := hat h0
    have h2 := far _ (getD_mem l k h0)
    have h3 := one _ (getD_mem l k h0)
    rw [← getD_at l k h0] at h1
    omega
  -- the first part
  have P1 : ∃ A, l.take (fromA l k p) = A ∧ ∃ g, gA l k p n = g ∧ Ok (-1) N A ∧ endOf (-1) A < g.p ∧ 0 ≤ g.p ∧ 1 ≤ g.n ∧ g.p + g.n = p + n ∧ total (l.take k) + n = total A + g.n ∧ ∀ x, (Pg A x ∨ (g.p ≤ x ∧ x < g.p + g.n)) ↔ (Pg (l.take k) x ∨ (p ≤ x ∧ x < p + n)) := by
    by_cases c : jA l k p = true
    · have c' := c
      unfold jA at c'
      simp only [Bool.and_eq_true, decide_eq_true_eq] at c'
      refine ⟨_, by rw [fromA, if_pos c], _, by rw [gA, if_pos c], ?_⟩
      have et := take_snoc l k c'.1 hk
      rw [et, Ok_append] at oA
      have hm := one _ (getD_mem l (k - 1) (by omega))
      generalize l.getD (k - 1) ⟨0, 0⟩ = r at *
      refine ⟨oA.1, oA.2.1, hm.1, by simp only; omega, by simp only; omega, ?_, fun x => ?_⟩
      · rw [et, total_append, total_cons, total_nil]; simp only; omega
      · rw [et, Pg_append, Pg_cons]
        simp only
        constructor
        · rintro (h | h)
          · exact .inl (.inl h)
          · by_cases hx : x < p
            · exact .inl (.inr (.inl (by omega)))
            · exact .inr (by omega)
        · rintro ((h | h | h) | h)
          · exact .inl h
          · exact .inr (by omega)
          · exact absurd h (Pg_nil _)
          · exact .inr (by omega)
    · refine ⟨_, by rw [fromA, if_neg c], _, by rw [gA, if_neg c], oA, ?_, hp, hn, rfl, rfl, fun x => Iff.rfl⟩
      show endOf (-1) (l.take k) < p
      rcases Nat.eq_zero_or_pos k with h0 | h0
      · subst h0
        show (-1 : Int) < p
        omega
      · have := ends h0
        have : ¬ (l.getD (k - 1) ⟨0, 0⟩).p + (l.getD (k - 1) ⟨0, 0⟩).n = p := fun e => c (by unfold jA; simp only [Bool.and_eq_true, decide_eq_true_eq]; exact ⟨h0, e⟩)
        omega
  obtain ⟨A, eA, g, eg, a1, a2, a3, a4, a5, a6, a7⟩ := P1
  rw [eA, eg]
  have tl : total l = total (l.take k) + total (l.drop k) := by rw [← total_append, List.take_append_drop]
  have pl : ∀ x, Pg l x ↔ Pg (l.take k) x ∨ Pg (l.drop k) x := fun x => by rw [← Pg_append, List.take_append_drop]
  by_cases c : jB l k (g.p + g.n) = true
  · have c' := c
    unfold jB at c'
    simp only [Bool.and_eq_true, decide_eq_true_eq] at c'
    rw [gB, if_pos c, toB, if_pos c]
    have ed := drop_cons l k c'.1
    have hm := one _ (getD_mem l k c'.1)
    have hb := begs c'.1
    rw [ed] at oB
    generalize l.getD k ⟨0, 0⟩ = r at *
    have oB' : Ok (r.p + r.n) N (l.drop (k + 1)) := oB.2.2.2.2
    refine ⟨put_ok a1 a2 a3 (by omega) (by omega) (oB'.mono (by omega)), ?_, fun x => ?_⟩
    · rw [tl, ed, total_append, total_cons, total_cons]; simp only; omega
    · have := a7 x
      rw [pl, ed, Pg_append, Pg_cons, Pg_cons]
      simp only
      constructor
      · rintro (h | h | h)
        · rcases this.1 (.inl h) with h | h
          · exact .inl (.inl h)
          · exact .inr h
        · by_cases hx : x < g.p + g.n
          · rcases this.1 (.inr ⟨h.1, hx⟩) with h | h
            · exact .inl (.inl h)
            · exact .inr h
          · exact .inl (.inr (.inl (by omega)))
        · exact .inl (.inr (.inr h))
      · rintro ((h | h | h) | h)
        · rcases this.2 (.inl h) with h | h
          · exact .inl h
          · exact .inr (.inl (by omega))
        · exact .inr (.inl (by omega))
        · exact .inr (.inr h)
        · rcases this.2 (.inr h) with h | h
          · exact .inl h
          · exact .inr (.inl (by omega))
  · rw [gB, if_neg c, toB, if_neg c]
    have oB' : Ok (g.p + g.n) N (l.drop k) := by
      rcases Nat.lt_or_ge k l.length with h0 | h0
      · have ed := drop_cons l k h0
        have hb := begs h0
        rw [ed] at oB ⊢
        refine ⟨?_, oB.2⟩
        have : ¬ (l.getD k ⟨0, 0⟩).p = g.p + g.n := fun e => c (by unfold jB; simp only [Bool.and_eq_true, decide_eq_true_eq]; exact ⟨h0, e⟩)
        omega
      · rw [List.drop_eq_nil_of_le h0]; trivial
    refine ⟨(Ok_append _ _ _).2 ⟨a1, a2, a3, a4, by omega, oB'⟩, ?_, fun x => ?_⟩
    · rw [tl, total_append, total_cons]; omega
    · have := a7 x
      rw [pl, Pg_append, Pg_cons]
      constructor
      · rintro (h | h | h)
        · rcases this.1 (.inl h) with h | h
          · exact .inl (.inl h)
          · exact .inr h
        · rcases this.1 (.inr h) with h | h
          · exact .inl (.inl h)
          · exact .inr h
        · exact .inl (.inr h)
      · rintro ((h | h) | h)
        · rcases this.2 (.inl h) with h | h
          · exact .inl h
          · exact .inr (.inl h)
        · exact .inr (.inr h)
        · rcases this.2 (.inr h) with h | h
          · exact .inl h
          · exact .inr (.inl h)

/-! The document's. -/
/-- Runs that begin at or above where the one ahead ends. -/
def Wk (a N : Int) : List R → Prop
  | [] => True
  | r :: l => a ≤ r.p ∧ 0 ≤ r.p ∧ 1 ≤ r.n ∧ r.p + r.n ≤ N ∧ Wk (r.p + r.n) N l
theorem Ok.wk {N : Int} {l : List R} : ∀ {a : Int}, Ok a N l → Wk a N l := by
  induction l with
  | nil => intro a _; trivial
  | cons r l ih => intro a h; exact ⟨by have := h.1; omega, h.2.1, h.2.2.1, h.2.2.2.1, ih h.2.2.2.2⟩
/-- The run is put ahead of the first one that begins above it. -/
def ins (l : List R) (p n : Int) : List R := l.take (cnt (p + 1) l) ++ (⟨p, n⟩ :: l.drop (cnt (p + 1) l))
theorem Wk_append {N : Int} (A B : List R) : ∀ a, Wk a N (A ++ B) ↔ Wk a N A ∧ Wk (endOf a A) N B := by
  induction A with
  | nil => intro a; simp [Wk, endOf]
  | cons r l ih => intro a; simp only [List.cons_append, Wk, endOf, ih]; simp only [and_assoc]
theorem ins_wk {N : Int} {l : List R} {p n : Int} (h : Ok (-1) N l) (hp : 0 ≤ p) (hn : 1 ≤ n) (hN : p + n ≤ N) (hh : has l p n = false) :
    Wk 0 N (ins l p n) ∧ ∀ x, Pg (ins l p n) x ↔ Pg l x ∨ (p ≤ x ∧ x < p + n) := by
  unfold ins
  have hk := cnt_le (p + 1) l
  have hbel := cnt_below (p + 1) l
  have hat := cnt_at (p + 1) l
  generalize cnt (p + 1) l = k at *
  have hok := h
  rw [← List.take_append_drop k l, Ok_append] at hok
  obtain ⟨oA, oB⟩ := hok
  have far : ∀ r ∈ l, r.p + r.n ≤ p ∨ p + n ≤ r.p := fun r hr => has_far hn hh hr
  have one : ∀ r ∈ l, 0 ≤ r.p ∧ 1 ≤ r.n ∧ r.p + r.n ≤ N := fun r hr => (h.mem r hr).2
  constructor
  · have w0 : ∀ (A : List R), Ok (-1) N A → Wk 0 N A := fun A hA => by
      cases A with
      | nil => trivial
      | cons r A => exact ⟨hA.2.1, hA.2.1, hA.2.2.1, hA.2.2.2.1, hA.2.2.2.2.wk⟩
    rw [Wk_append]
    refine ⟨w0 _ oA, ?_, hp, hn, hN, ?_⟩
    · rcases Nat.eq_zero_or_pos k with h0 | h0
      · subst h0; exact hp
      · rw [take_snoc l k h0 hk, endOf_append]
        show (l.getD (k - 1) ⟨0, 0⟩).p + (l.getD (k - 1) ⟨0, 0⟩).n ≤ p
        have h1 := hbel (k - 1) (by omega) (by omega)
        have h2 := far _ (getD_mem l (k - 1) (by omega))
        rw [← getD_at l (k - 1) (by omega)] at h1
        omega
    · rcases Nat.lt_or_ge k l.length with h0 | h0
      · have h1 := hat h0
        have h2 := far _ (getD_mem l k h0)
        have h3 := one _ (getD_mem l k h0)
        rw [← getD_at l k h0] at h1
        rw [drop_cons l k h0] at oB ⊢
        exact ⟨by simp only; omega, oB.2.1, oB.2.2.1, oB.2.2.2.1, oB.2.2.2.2.wk⟩
      · rw [List.drop_eq_nil_of_le h0]; trivial
  · intro x
    have pl : Pg l x ↔ Pg (l.take k) x ∨ Pg (l.drop k) x := by rw [← Pg_append, List.take_append_drop]
    rw [pl, Pg_append, Pg_cons]
    simp only
    constructor
    · rintro (h | h | h)
      · exact .inl (.inl h)
      · exact .inr h
      · exact .inl (.inr h)
    · rintro ((h | h) | h)
      · exact .inl h
      · exact .inr (.inr h)
      · exact .inr (.inl h)
/-- Whether a run goes on where runs end. -/
def meets (out : List R) (r : R) : Bool := decide (0 < out.length) && decide ((out.getD (out.length - 1) ⟨0, 0⟩).p + (out.getD (out.length - 1) ⟨0, 0⟩).n = r.p)
def add (out : List R) (r : R) : List R :=
  if meets out r = true then out.take (out.length - 1) ++ [⟨(out.getD (out.length - 1) ⟨0, 0⟩).p, (out.getD (out.length - 1) ⟨0, 0⟩).n + r.n⟩] else out ++ [r]
theorem add_ok {N : Int} {out : List R} {r : R} (h : Ok (-1) N out) (h1 : endOf 0 out ≤ r.p) (h0 : 0 ≤ r.p) (hn : 1 ≤ r.n) (hN : r.p + r.n ≤ N) :
    Ok (-1) N (add out r) ∧ endOf 0 (add out r) = r.p + r.n ∧ (∀ x, Pg (add out r) x ↔ Pg out x ∨ (r.p ≤ x ∧ x < r.p + r.n)) ∧ (add out r).length ≤ out.length + 1 := by
  have hend : 0 < out.length → ∀ a, endOf a out = (out.getD (out.length - 1) ⟨0, 0⟩).p + (out.getD (out.length - 1) ⟨0, 0⟩).n := fun h a => by
    have e := take_snoc out out.length h (Nat.le_refl _)
    rw [List.take_length] at e
    rw [e, endOf_append, ← e]
    rfl
  unfold add
  by_cases c : meets out r = true
  · rw [if_pos c]
    unfold meets at c
    simp only [Bool.and_eq_true, decide_eq_true_eq] at c
    have e := take_snoc out out.length c.1 (Nat.le_refl _)
    rw [List.take_length] at e
    have hlen : (out.take (out.length - 1)).length + 1 = out.length := by simp; omega
    generalize out.getD (out.length - 1) ⟨0, 0⟩ = s at *
    generalize out.take (out.length - 1) = A at *
    rw [e, Ok_append] at h
    obtain ⟨hA, b1, b2, b3, b4, _⟩ := h
    refine ⟨put_ok hA b1 b2 (by omega) (by omega) trivial, ?_, fun x => ?_, by simp; omega⟩
    · rw [endOf_append]; show s.p + (s.n + r.n) = _; omega
    · rw [e, Pg_append, Pg_append, Pg_cons, Pg_cons]
      simp only
      constructor
      · rintro (h | h | h)
        · exact .inl (.inl h)
        · by_cases hx : x < r.p
          · exact .inl (.inr (.inl (by omega)))
          · exact .inr (by omega)
        · exact absurd h (Pg_nil _)
      · rintro ((h | h | h) | h)
        · exact .inl h
        · exact .inr (.inl (by omega))
        · exact absurd h (Pg_nil _)
        · exact .inr (.inl (by omega))
  · rw [if_neg c]
    refine ⟨(Ok_append _ _ _).2 ⟨h, ?_, h0, hn, hN, trivial⟩, ?_, fun x => ?_, by simp⟩
    · rcases Nat.eq_zero_or_pos out.length with h2 | h2
      · have : out = [] := List.eq_nil_of_length_eq_zero h2
        subst this
        show (-1 : Int) < r.p
        omega
      · rw [hend h2] at h1 ⊢
        have : ¬ (out.getD (out.length - 1) ⟨0, 0⟩).p + (out.getD (out.length - 1) ⟨0, 0⟩).n = r.p := fun e => c (by unfold meets; simp only [Bool.and_eq_true, decide_eq_true_eq]; exact ⟨h2, e⟩)
        omega
    · rw [endOf_append]; rfl
    · rw [Pg_append, Pg_cons]
      simp only [Pg_nil, or_false]
def mrg (out : List R) (l : List R) : List R := l.foldl add out
theorem mrg_ok {N : Int} (l : List R) : ∀ (out : List R), Ok (-1) N out → Wk (endOf 0 out) N l →
    Ok (-1) N (mrg out l) ∧ ∀ x, Pg (mrg out l) x ↔ Pg out x ∨ Pg l x := by
  induction l with
  | nil => intro out h _; exact ⟨h, fun x => by simp only [Pg_nil, or_false]; rfl⟩
  | cons r l ih =>
    intro out h hw
    have ha := add_ok h hw.1 hw.2.1 hw.2.2.1 hw.2.2.2.1
    have := ih (add out r) ha.1 (by rw [ha.2.1]; exact hw.2.2.2.2)
    refine ⟨this.1, fun x => ?_⟩
    show Pg (mrg (add out r) l) x ↔ _
    rw [this.2 x, ha.2.2.1, Pg_cons, or_assoc]
theorem mrg_take (l : List R) (k : Nat) (h : k < l.length) : mrg [] (l.take (k + 1)) = add (mrg [] (l.take k)) l[k] := by
  unfold mrg
  rw [List.take_succ_eq_append_getElem h, List.foldl_append]
  rfl
/-- The program's answer is the document's. -/
theorem give_eq {N : Int} {l : List R} {p n : Int} (h : Ok (-1) N l) (hp : 0 ≤ p) (hn : 1 ≤ n) (hN : p + n ≤ N) (hh : has l p n = false) : give l p n = mrg [] (ins l p n) := by
  have h1 := give_ok h hp hn hN hh
  have h2 := ins_wk h hp hn hN hh
  have h3 := mrg_ok (N := N) (ins l p n) [] trivial h2.1
  exact uniq N N _ _ _ _ h1.1 h3.1 (fun x => by rw [h1.2.2, h3.2, h2.2]; simp only [Pg_nil, false_or])
theorem give_length {l : List R} {p n : Int} : (give l p n).length ≤ l.length + 1 := by
  unfold give
  simp only [List.length_append, List.length_cons, List.length_take, List.length_drop]
  have := cnt_le p l
  unfold fromA toB
  split <;> split <;> omega
theorem left_length {l : List R} {k : Nat} {n : Int} (h : k < l.length) : (left l k n).length ≤ l.length := by
  unfold left
  split <;> simp only [List.length_append, List.length_cons, List.length_take, List.length_drop, List.length_nil] <;> omega
end M
end Go.Proofs.Yteiiiapjloincaa
