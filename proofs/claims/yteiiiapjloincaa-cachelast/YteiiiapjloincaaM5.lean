/-
  The mathematics of runs of pages: lists that are right, their pages, one list for one set of pages; the best run, what is taken, what is given back.
-/
import Derived.Test.YteiiiapjloincaaBase
namespace Go.Proofs.Yteiiiapjloincaa
set_option linter.unusedVariables false
namespace M

structure R where
  p : Int
  n : Int
deriving DecidableEq

/-- Right, from a page above 'at' on, within N pages. -/
def Ok (at' N : Int) : List R → Prop
  | [] => True
  | r :: l => at' < r.p ∧ 0 ≤ r.p ∧ 1 ≤ r.n ∧ r.p + r.n ≤ N ∧ Ok (r.p + r.n) N l
def okB (at' N : Int) : List R → Bool
  | [] => true
  | r :: l => decide (at' < r.p) && (decide (0 ≤ r.p) && (decide (1 ≤ r.n) && (decide (r.p + r.n ≤ N) && okB (r.p + r.n) N l)))
theorem okB_iff (N : Int) (l : List R) : ∀ at', okB at' N l = true ↔ Ok at' N l := by
  induction l with
  | nil => intro a; simp [okB, Ok]
  | cons r l ih => intro a; simp [okB, Ok, ih]
def endOf (at' : Int) : List R → Int
  | [] => at'
  | r :: l => endOf (r.p + r.n) l
theorem Ok.mono {N : Int} {l : List R} {a b : Int} (h : Ok a N l) (hb : b ≤ a) : Ok b N l := by
  cases l with
  | nil => trivial
  | cons r l => exact ⟨by have := h.1; omega, h.2⟩
theorem Ok.wide {N N' : Int} {l : List R} : ∀ {a : Int}, Ok a N l → N ≤ N' → Ok a N' l := by
  induction l with
  | nil => intro a h hN; trivial
  | cons r l ih => intro a h hN; exact ⟨h.1, h.2.1, h.2.2.1, by have := h.2.2.2.1; omega, ih h.2.2.2.2 hN⟩
theorem Ok_append {N : Int} (A B : List R) : ∀ a, Ok a N (A ++ B) ↔ Ok a N A ∧ Ok (endOf a A) N B := by
  induction A with
  | nil => intro a; simp [Ok, endOf]
  | cons r l ih => intro a; simp only [List.cons_append, Ok, endOf, ih]; simp only [and_assoc]
theorem endOf_append (A B : List R) : ∀ a, endOf a (A ++ B) = endOf (endOf a A) B := by
  induction A with
  | nil => intro a; rfl
  | cons r l ih => intro a; simp only [List.cons_append, endOf, ih]
theorem Ok.mem {N : Int} {l : List R} : ∀ {a : Int}, Ok a N l → ∀ r ∈ l, a < r.p ∧ 0 ≤ r.p ∧ 1 ≤ r.n ∧ r.p + r.n ≤ N := by
  induction l with
  | nil => intro a h r hr; cases hr
  | cons s l ih =>
    intro a h r hr
    rcases List.mem_cons.1 hr with rfl | hr
    · exact ⟨h.1, h.2.1, h.2.2.1, h.2.2.2.1⟩
    · have := ih h.2.2.2.2 r hr
      have h1 := h.1
      have h3 := h.2.2.1
      exact ⟨by omega, this.2⟩
theorem endOf_le {N : Int} {l : List R} : ∀ {a : Int}, Ok a N l → ∀ r ∈ l, r.p + r.n ≤ endOf a l := by
  induction l with
  | nil => intro a h r hr; cases hr
  | cons s l ih =>
    intro a h r hr
    show r.p + r.n ≤ endOf (s.p + s.n) l
    rcases List.mem_cons.1 hr with rfl | hr
    · clear ih
      have : ∀ (l : List R) (b : Int), Ok b N l → b ≤ endOf b l := by
        intro l
        induction l with
        | nil => intro b _; exact Int.le_refl _
        | cons t l ih => intro b h; have := ih _ h.2.2.2.2; have h1 := h.1; have h3 := h.2.2.1; show b ≤ endOf (t.p + t.n) l; omega
      exact this l _ h.2.2.2.2
    · exact ih h.2.2.2.2 r hr
theorem endOf_bound {N : Int} {l : List R} : ∀ {a : Int}, Ok a N l → a ≤ endOf a l := by
  induction l with
  | nil => intro b _; exact Int.le_refl _
  | cons t l ih => intro b h; have := ih h.2.2.2.2; have h1 := h.1; have h3 := h.2.2.1; show b ≤ endOf (t.p + t.n) l; omega

/-- Whether a page is one of a run's. -/
def Pg (l : List R) (x : Int) : Prop := ∃ r ∈ l, r.p ≤ x ∧ x < r.p + r.n
theorem Pg_nil (x : Int) : ¬ Pg [] x := fun ⟨r, h, _⟩ => by cases h
theorem Pg_cons (r : R) (l : List R) (x : Int) : Pg (r :: l) x ↔ (r.p ≤ x ∧ x < r.p + r.n) ∨ Pg l x := by
  unfold Pg
  simp only [List.mem_cons, exists_eq_or_imp]
theorem Pg_append (A B : List R) (x : Int) : Pg (A ++ B) x ↔ Pg A x ∨ Pg B x := by
  unfold Pg
  simp only [List.mem_append, or_and_right, exists_or]
theorem Ok.pg {a N : Int} {l : List R} (h : Ok a N l) {x : Int} (hx : Pg l x) : a < x := by
  obtain ⟨r, hr, h1, h2⟩ := hx
  have := h.mem r hr
  omega
/-- ONE LIST FOR ONE SET OF PAGES. -/
theorem uniq (N N' : Int) : ∀ (l m : List R) (a b : Int), Ok a N l → Ok b N' m → (∀ x, Pg l x ↔ Pg m x) → l = m := by
  intro l
  induction l with
  | nil =>
    intro m a b hl hm h
    cases m with
    | nil => rfl
    | cons s m => exact absurd ((h s.p).2 ((Pg_cons _ _ _).2 (.inl ⟨by omega, by have := hm.2.2.1; omega⟩))) (Pg_nil _)
  | cons r l ih =>
    intro m a b hl hm h
    cases m with
    | nil => exact absurd ((h r.p).1 ((Pg_cons _ _ _).2 (.inl ⟨by omega, by have := hl.2.2.1; omega⟩))) (Pg_nil _)
    | cons s m =>
      have hr := hl.2.2.1
      have hs := hm.2.2.1
      have gl : ∀ x, Pg l x → r.p + r.n < x := fun x hx => hl.2.2.2.2.pg hx
      have gm : ∀ x, Pg m x → s.p + s.n < x := fun x hx => hm.2.2.2.2.pg hx
      have ep : r.p = s.p := by
        have h1 := (Pg_cons _ _ _).1 ((h r.p).1 ((Pg_cons _ _ _).2 (.inl ⟨by omega, by omega⟩)))
        have h2 := (Pg_cons _ _ _).1 ((h s.p).2 ((Pg_cons _ _ _).2 (.inl ⟨by omega, by omega⟩)))
        rcases h1 with h1 | h1 <;> rcases h2 with h2 | h2
        · omega
        · have := gl _ h2; omega
        · have := gm _ h1; omega
        · have := gl _ h2; have := gm _ h1; omega
      have en : r.n = s.n := by
        rcases Int.lt_trichotomy r.n s.n with h1 | h1 | h1
        · have h2 := (Pg_cons _ _ _).1 ((h (r.p + r.n)).2 ((Pg_cons _ _ _).2 (.inl ⟨by omega, by omega⟩)))
          rcases h2 with h2 | h2
          · omega
          · have := gl _ h2; omega
        · exact h1
        · have h2 := (Pg_cons _ _ _).1 ((h (s.p + s.n)).1 ((Pg_cons _ _ _).2 (.inl ⟨by omega, by omega⟩)))
          rcases h2 with h2 | h2
          · omega
          · have := gm _ h2; omega
      have e : r = s := by cases r; cases s; simp only at ep en; rw [ep, en]
      subst e
      congr 1
      refine ih m _ _ hl.2.2.2.2 hm.2.2.2.2 (fun x => ?_)
      have := h x
      rw [Pg_cons, Pg_cons] at this
      constructor
      · intro hx
        have h1 := gl x hx
        rcases this.1 (.inr hx) with h2 | h2
        · omega
        · exact h2
      · intro hx
        have h1 := gm x hx
        rcases this.2 (.inr hx) with h2 | h2
        · omega
        · exact h2

def total (l : List R) : Int := (l.map (·.n)).sum
theorem total_nil : total [] = 0 := rfl
theorem total_cons (r : R) (l : List R) : total (r :: l) = r.n + total l := rfl
theorem total_append (A B : List R) : total (A ++ B) = total A + total B := by simp [total]
theorem total_take_succ (l : List R) (k : Nat) (h : k < l.length) : total (l.take (k + 1)) = total (l.take k) + l[k].n := by
  rw [List.take_succ_eq_append_getElem h, total_append, total_cons, total_nil]
  omega
theorem total_nonneg {a N : Int} {l : List R} (h : Ok a N l) : 0 ≤ total l := by
  induction l generalizing a with
  | nil => exact Int.le_refl _
  | cons r l ih => rw [total_cons]; have := ih h.2.2.2.2; have := h.2.2.1; omega
theorem total_le {a N : Int} {l : List R} (h : Ok a N l) (ha : a ≤ N) : total l ≤ N - a := by
  induction l generalizing a with
  | nil => rw [total_nil]; omega
  | cons r l ih => rw [total_cons]; have := ih h.2.2.2.2 h.2.2.2.1; have := h.1; omega
theorem total_pos {a N : Int} {l : List R} (h : Ok a N l) (hl : l ≠ []) : 0 < total l := by
  cases l with
  | nil => exact absurd rfl hl
  | cons r l => rw [total_cons]; have := total_nonneg h.2.2.2.2; have := h.2.2.1; omega
theorem Ok.take {a N : Int} {l : List R} (h : Ok a N l) (k : Nat) : Ok a N (l.take k) := by
  have : Ok a N (l.take k ++ l.drop k) := by rw [List.take_append_drop]; exact h
  exact ((Ok_append _ _ _).1 this).1

/-- Whether one of n pages from p on is one of a run's. -/
def has (l : List R) (p n : Int) : Bool := decide (1 ≤ n) && l.any (fun r => decide (p < r.p + r.n) && decide (r.p - n < p))
theorem has_iff (l : List R) (p n : Int) (hn : 1 ≤ n) : has l p n = true ↔ ∃ r ∈ l, p < r.p + r.n ∧ r.p < p + n := by
  unfold has
  simp only [Bool.and_eq_true, decide_eq_true_eq, List.any_eq_true]
  constructor
  · rintro ⟨_, r, hr, h1, h2⟩; exact ⟨r, hr, h1, by omega⟩
  · rintro ⟨r, hr, h1, h2⟩; exact ⟨hn, r, hr, h1, by omega⟩
theorem has_pg {a N : Int} {l : List R} (h : Ok a N l) (p n : Int) (hn : 1 ≤ n) : has l p n = true ↔ ∃ x, p ≤ x ∧ x < p + n ∧ Pg l x := by
  rw [has_iff l p n hn]
  constructor
  · rintro ⟨r, hr, h1, h2⟩
    have := h.mem r hr
    rcases Int.le_total p r.p with h3 | h3
    · exact ⟨r.p, h3, h2, r, hr, by omega, by omega⟩
    · exact ⟨p, by omega, by omega, r, hr, h3, h1⟩
  · rintro ⟨x, h1, h2, r, hr, h3, h4⟩
    exact ⟨r, hr, by omega, by omega⟩
theorem has_not {a N : Int} {l : List R} (h : Ok a N l) (p n : Int) (hn : 1 ≤ n) : has l p n = false ↔ ∀ x, p ≤ x → x < p + n → ¬ Pg l x := by
  rw [← Bool.not_eq_true, has_pg h p n hn]
  constructor
  · intro h x h1 h2 h3; exact h ⟨x, h1, h2, h3⟩
  · rintro h ⟨x, h1, h2, h3⟩; exact h x h1 h2 h3
theorem has_far {l : List R} {p n : Int} (hn : 1 ≤ n) (h : has l p n = false) {r : R} (hr : r ∈ l) : r.p + r.n ≤ p ∨ p + n ≤ r.p := by
  rw [← Bool.not_eq_true, has_iff l p n hn] at h
  rcases Int.lt_or_le p (r.p + r.n) with h1 | h1
  · exact .inr (by
      rcases Int.lt_or_le r.p (p + n) with h2 | h2
      · exact absurd ⟨r, hr, h1, h2⟩ h
      · exact h2)
  · exact .inl h1

/-! The best run. -/
def IsBest (l : List R) (n b : Int) : Prop :=
  (b = -1 ∧ (n < 1 ∨ ∀ r ∈ l, r.n < n)) ∨
  ∃ (k : Nat) (h : k < l.length), b = k ∧ 1 ≤ n ∧ n ≤ l[k].n ∧ ∀ j (hj : j < l.length), n ≤ l[j].n → l[k].n ≤ l[j].n ∧ (j < k → l[k].n < l[j].n)
theorem IsBest.uniq {l : List R} {n b c : Int} (h : IsBest l n b) (g : IsBest l n c) : b = c := by
  rcases h with ⟨rfl, h⟩ | ⟨k, hk, rfl, h1, h2, h3⟩ <;> rcases g with ⟨rfl, g⟩ | ⟨m, hm, rfl, g1, g2, g3⟩
  · rfl
  · rcases h with h | h
    · omega
    · have := h _ (List.getElem_mem hm); omega
  · rcases g with g | g
    · omega
    · have := g _ (List.getElem_mem hk); omega
  · have a1 := h3 m hm g2
    have a2 := g3 k hk h2
    rcases Nat.lt_trichotomy k m with h | h | h
    · have := a2.2 h; omega
    · rw [h]
    · have := a1.2 h; omega
theorem IsBest.neg {l : List R} {n b : Int} (h : IsBest l n b) (hb : b < 0) : n < 1 ∨ ∀ r ∈ l, r.n < n := by
  rcases h with ⟨rfl, h⟩ | ⟨k, hk, rfl, h1, h2, h3⟩
  · exact h
  · omega
theorem IsBest.pos {l : List R} {n b : Int} (h : IsBest l n b) (hb : 0 ≤ b) : ∃ (k : Nat) (h : k < l.length), b = k ∧ 1 ≤ n ∧ n ≤ l[k].n ∧ ∀ j (hj : j < l.length), n ≤ l[j].n → l[k].n ≤ l[j].n ∧ (j < k → l[k].n < l[j].n) := by
  rcases h with ⟨rfl, h⟩ | h
  · omega
  · exact h
/-- By a loop from behind. -/
def best (n : Int) : List R → Int
  | [] => -1
  | r :: l => let k := best n l
    if n ≤ r.n ∧ 1 ≤ n ∧ (k < 0 ∨ r.n ≤ (l.getD k.toNat ⟨0, 0⟩).n) then 0 else if k < 0 then -1 else k + 1
theorem best_is (n : Int) (l : List R) : IsBest l n (best n l) := by
  induction l with
  | nil => exact .inl ⟨rfl, .inr (fun r h => by cases h)⟩
  | cons r l ih =>
    unfold best
    generalize best n l = b at ih ⊢
    simp only
    rcases ih with ⟨rfl, ih⟩ | ⟨k, hk, rfl, h1, h2, h3⟩
    · by_cases hc : n ≤ r.n ∧ 1 ≤ n
      · rw [if_pos ⟨hc.1, hc.2, .inl (by omega)⟩]
        refine .inr ⟨0, by simp, rfl, hc.2, hc.1, fun j hj hn => ?_⟩
        cases j with
        | zero => exact ⟨Int.le_refl _, fun h => by omega⟩
        | succ j =>
          exfalso
          rcases ih with ih | ih
          · omega
          · have := ih _ (List.getElem_mem (l := l) (n := j) (by simpa using hj)); simp at hn; omega
      · rw [if_neg (fun h => hc ⟨h.1, h.2.1⟩), if_pos (by omega)]
        refine .inl ⟨rfl, ?_⟩
        rcases ih with ih | ih
        · exact .inl ih
        · by_cases h1 : n < 1
          · exact .inl h1
          · refine .inr (fun s hs => ?_)
            rcases List.mem_cons.1 hs with rfl | hs
            · exact Int.not_le.1 (fun h => hc ⟨h, by omega⟩)
            · exact ih s hs
    · have eg : l.getD ((k : Int).toNat) ⟨0, 0⟩ = l[k] := by simp [List.getD, List.getElem?_eq_getElem hk]
      rw [eg]
      by_cases hc : n ≤ r.n ∧ r.n ≤ l[k].n
      · rw [if_pos ⟨hc.1, h1, .inr hc.2⟩]
        refine .inr ⟨0, by simp, rfl, h1, hc.1, fun j hj hn => ?_⟩
        cases j with
        | zero => exact ⟨Int.le_refl _, fun h => by omega⟩
        | succ j => have := (h3 j (by simpa using hj) (by simpa using hn)).1; exact ⟨by simp; omega, fun h => by omega⟩
      · rw [if_neg (fun h => hc ⟨h.1, h.2.2.resolve_left (by omega)⟩), if_neg (by omega)]
        refine .inr ⟨k + 1, by simpa using hk, by omega, h1, by simpa using h2, fun j hj hn => ?_⟩
        cases j with
        | zero =>
          simp only [List.getElem_cons_zero] at hn
          have : ¬ r.n ≤ l[k].n := fun h => hc ⟨hn, h⟩
          exact ⟨by simp; omega, fun _ => by simp; omega⟩
        | succ j =>
          have := h3 j (by simpa using hj) (by simpa using hn)
          refine ⟨by simpa using this.1, fun h => ?_⟩
          simpa using this.2 (by omega)
theorem best_eq {l : List R} {n b : Int} (h : IsBest l n b) : b = best n l := h.uniq (best_is n l)

/-! What is taken. -/
def left (l : List R) (k : Nat) (n : Int) : List R :=
  l.take k ++ ((if (l.getD k ⟨0, 0⟩).n = n then [] else [⟨(l.getD k ⟨0, 0⟩).p + n, (l.getD k ⟨0, 0⟩).n - n⟩]) ++ l.drop (k + 1))
theorem split_at (l : List R) (k : Nat) (h : k < l.length) : l = l.take k ++ (l.getD k ⟨0, 0⟩ :: l.drop (k + 1)) := by
  have : l.getD k ⟨0, 0⟩ = l[k] := by simp [List.getD, List.getElem?_eq_getElem h]
  rw [this, List.getElem_cons_drop, List.take_append_drop]
theorem left_ok {N : Int} {l : List R} {a : Int} (h : Ok a N l) (k : Nat) (hk : k < l.length) (n : Int) (hn : 1 ≤ n) (hle : n ≤ (l.getD k ⟨0, 0⟩).n) :
    Ok a N (left l k n) ∧ total (left l k n) = total l - n ∧ (∀ x, Pg l x ↔ Pg (left l k n) x ∨ ((l.getD k ⟨0, 0⟩).p ≤ x ∧ x < (l.getD k ⟨0, 0⟩).p + n)) ∧
    (∀ x, Pg (left l k n) x → ¬ ((l.getD k ⟨0, 0⟩).p ≤ x ∧ x < (l.getD k ⟨0, 0⟩).p + n)) := by
  have e := split_at l k hk
  generalize hA : l.take k = A at *
  generalize hB : l.drop (k + 1) = B at *
  generalize hr : l.getD k ⟨0, 0⟩ = r at *
  have h0 := h
  rw [e, Ok_append] at h
  obtain ⟨ha, h1, h2, h3, h4, hb⟩ := h
  have pgA : ∀ x, Pg A x → x < r.p := fun x ⟨s, hs, _, hx⟩ => by have := endOf_le ha s hs; omega
  have pgB : ∀ x, Pg B x → r.p + r.n < x := fun x hx => hb.pg hx
  have el : left l k n = A ++ ((if r.n = n then [] else [⟨r.p + n, r.n - n⟩]) ++ B) := by unfold left; rw [hA, hB, hr]
  rw [el]
  by_cases c : r.n = n
  · rw [if_pos c, List.nil_append]
    refine ⟨(Ok_append _ _ _).2 ⟨ha, hb.mono (by omega)⟩, ?_, fun x => ?_, fun x hx => ?_⟩
    · rw [e, total_append, total_append, total_cons]; omega
    · rw [e, Pg_append, Pg_append, Pg_cons, c]
      constructor
      · rintro (h | h | h)
        · exact .inl (.inl h)
        · exact .inr h
        · exact .inl (.inr h)
      · rintro ((h | h) | h)
        · exact .inl h
        · exact .inr (.inr h)
        · exact .inr (.inl h)
    · rw [Pg_append] at hx
      rcases hx with hx | hx
      · have := pgA x hx; omega
      · have := pgB x hx; omega
  · rw [if_neg c]
    refine ⟨(Ok_append _ _ _).2 ⟨ha, ?_⟩, ?_, fun x => ?_, fun x hx => ?_⟩
    · simp only [List.singleton_append, Ok]
      exact ⟨by omega, by omega, by omega, by omega, hb.mono (by omega)⟩
    · rw [e]
      simp only [total_append, total_cons, total_nil]
      omega
    · rw [e, Pg_append, Pg_append, Pg_cons, List.singleton_append, Pg_cons]
      simp only
      constructor
      · rintro (h | h | h)
        · exact .inl (.inl h)
        · by_cases c : x < r.p + n
          · exact .inr ⟨h.1, c⟩
          · exact .inl (.inr (.inl ⟨by omega, by omega⟩))
        · exact .inl (.inr (.inr h))
      · rintro ((h | h | h) | h)
        · exact .inl h
        · exact .inr (.inl ⟨by omega, by omega⟩)
        · exact .inr (.inr h)
        · exact .inr (.inl ⟨by omega, by omega⟩)
    · rw [Pg_append, List.singleton_append, Pg_cons] at hx
      simp only at hx
      rcases hx with hx | hx | hx
      · have := pgA x hx; omega
      · omega
      · have := pgB x hx; omega
end M
end Go.Proofs.Yteiiiapjloincaa
