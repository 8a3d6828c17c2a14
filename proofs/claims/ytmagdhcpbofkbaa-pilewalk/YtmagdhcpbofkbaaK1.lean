/-
  The mathematics of runs of pages: lists that are right, their pages, one list for one set of pages; the best run, what is taken, what is given back.
-/
import Derived.Test.YtmagdhcpbofkbaaK0
import Derived.Deep.Slices
import Derived.Deep.Fields
import Derived.Deep.AppendLies
import Derived.Deep.Upon
import Derived.Laws.IdiomCopy
import Derived.Lib.SliceRun
import Derived.Deep.DeepCutAuto
import Derived.Deep.RegionHeld3
import Derived.Laws.CopyRow
import Derived.Lib.AppendZerosOnto
import Derived.Lib.Overlaps
namespace Go.Proofs.Ytmagdhcpbofkbaa
set_option linter.unusedVariables false
namespace M

structure R where
  p : Int
  n : Int
deriving DecidableEq

/-- Right, from a page above 'at' on, within N pages. -/
def Ok (at' N : Int) : List R → Prop
  | [] => True
  | r :: l => at' < r.p ∧ 0 ≤ r.p ∧ 1 ≤ r.n ∧ r.p + r.n ≤ N ∧ Ok (r.p + r.n) N l
def okB (at' N : Int) : List R → Bool
  | [] => true
  | r :: l => decide (at' < r.p) && (decide (0 ≤ r.p) && (decide (1 ≤ r.n) && (decide (r.p + r.n ≤ N) && okB (r.p + r.n) N l)))
theorem okB_iff (N : Int) (l : List R) : ∀ at', okB at' N l = true ↔ Ok at' N l := by
  induction l with
  | nil => intro a; simp [okB, Ok]
  | cons r l ih => intro a; simp [okB, Ok, ih]
def endOf (at' : Int) : List R → Int
  | [] => at'
  | r :: l => endOf (r.p + r.n) l
theorem Ok.mono {N : Int} {l : List R} {a b : Int} (h : Ok a N l) (hb : b ≤ a) : Ok b N l := by
  cases l with
  | nil => trivial
  | cons r l => exact ⟨by have := h.1; omega, h.2⟩
theorem Ok.wide {N N' : Int} {l : List R} : ∀ {a : Int}, Ok a N l → N ≤ N' → Ok a N' l := by
  induction l with
  | nil => intro a h hN; trivial
  | cons r l ih => intro a h hN; exact ⟨h.1, h.2.1, h.2.2.1, by have := h.2.2.2.1; omega, ih h.2.2.2.2 hN⟩
theorem Ok_append {N : Int} (A B : List R) : ∀ a, Ok a N (A ++ B) ↔ Ok a N A ∧ Ok (endOf a A) N B := by
  induction A with
  | nil => intro a; simp [Ok, endOf]
  | cons r l ih => intro a; simp only [List.cons_append, Ok, endOf, ih]; simp only [and_assoc]
theorem endOf_append (A B : List R) : ∀ a, endOf a (A ++ B) = endOf (endOf a A) B := by
  induction A with
  | nil => intro a; rfl
  | cons r l ih => intro a; simp only [List.cons_append, endOf, ih]
theorem Ok.mem {N : Int} {l : List R} : ∀ {a : Int}, Ok a N l → ∀ r ∈ l, a < r.p ∧ 0 ≤ r.p ∧ 1 ≤ r.n ∧ r.p + r.n ≤ N := by
  induction l with
  | nil => intro a h r hr; cases hr
  | cons s l ih =>
    intro a h r hr
    rcases List.mem_cons.1 hr with rfl | hr
    · exact ⟨h.1, h.2.1, h.2.2.1, h.2.2.2.1⟩
    · have := ih h.2.2.2.2 r hr
      have h1 := h.1
      have h3 := h.2.2.1
      exact ⟨by omega, this.2⟩
theorem endOf_le {N : Int} {l : List R} : ∀ {a : Int}, Ok a N l → ∀ r ∈ l, r.p + r.n ≤ endOf a l := by
  induction l with
  | nil => intro a h r hr; cases hr
  | cons s l ih =>
    intro a h r hr
    show r.p + r.n ≤ endOf (s.p + s.n) l
    rcases List.mem_cons.1 hr with rfl | hr
    · clear ih
      have : ∀ (l : List R) (b : Int), Ok b N l → b ≤ endOf b l := by
        intro l
        induction l with
        | nil => intro b _; exact Int.le_refl _
        | cons t l ih => intro b h; have := ih _ h.2.2.2.2; have h1 := h.1; have h3 := h.2.2.1; show b ≤ endOf (t.p + t.n) l; omega
      exact this l _ h.2.2.2.2
    · exact ih h.2.2.2.2 r hr
theorem endOf_bound {N : Int} {l : List R} : ∀ {a : Int}, Ok a N l → a ≤ endOf a l := by
  induction l with
  | nil => intro b _; exact Int.le_refl _
  | cons t l ih => intro b h; have := ih h.2.2.2.2; have h1 := h.1; have h3 := h.2.2.1; show b ≤ endOf (t.p + t.n) l; omega

/-- Whether a page is one of a run's. -/
def Pg (l : List R) (x : Int) : Prop := ∃ r ∈ l, r.p ≤ x ∧ x < r.p + r.n
theorem Pg_nil (x : Int) : ¬ Pg [] x := fun ⟨r, h, _⟩ => by cases h
theorem Pg_cons (r : R) (l : List R) (x : Int) : Pg (r :: l) x ↔ (r.p ≤ x ∧ x < r.p + r.n) ∨ Pg l x := by
  unfold Pg
  simp only [List.mem_cons, exists_eq_or_imp]
theorem Pg_append (A B : List R) (x : Int) : Pg (A ++ B) x ↔ Pg A x ∨ Pg B x := by
  unfold Pg
  simp only [List.mem_append, or_and_right, exists_or]
theorem Ok.pg {a N : Int} {l : List R} (h : Ok a N l) {x : Int} (hx : Pg l x) : a < x := by
  obtain ⟨r, hr, h1, h2⟩ := hx
  have := h.mem r hr
  omega
/-- ONE LIST FOR ONE SET OF PAGES. -/
theorem uniq (N N' : Int) : ∀ (l m : List R) (a b : Int), Ok a N l → Ok b N' m → (∀ x, Pg l x ↔ Pg m x) → l = m := by
  intro l
  induction l with
  | nil =>
    intro m a b hl hm h
    cases m with
    | nil => rfl
    | cons s m => exact absurd ((h s.p).2 ((Pg_cons _ _ _).2 (.inl ⟨by omega, by have := hm.2.2.1; omega⟩))) (Pg_nil _)
  | cons r l ih =>
    intro m a b hl hm h
    cases m with
    | nil => exact absurd ((h r.p).1 ((Pg_cons _ _ _).2 (.inl ⟨by omega, by have := hl.2.2.1; omega⟩))) (Pg_nil _)
    | cons s m =>
      have hr := hl.2.2.1
      have hs := hm.2.2.1
      have gl : ∀ x, Pg l x → r.p + r.n < x := fun x hx => hl.2.2.2.2.pg hx
      have gm : ∀ x, Pg m x → s.p + s.n < x := fun x hx => hm.2.2.2.2.pg hx
      have ep : r.p = s.p := by
        have h1 := (Pg_cons _ _ _).1 ((h r.p).1 ((Pg_cons _ _ _).2 (.inl ⟨by omega, by omega⟩)))
        have h2 := (Pg_cons _ _ _).1 ((h s.p).2 ((Pg_cons _ _ _).2 (.inl ⟨by omega, by omega⟩)))
        rcases h1 with h1 | h1 <;> rcases h2 with h2 | h2
        · omega
        · have := gl _ h2; omega
        · have := gm _ h1; omega
        · have := gl _ h2; have := gm _ h1; omega
      have en : r.n = s.n := by
        rcases Int.lt_trichotomy r.n s.n with h1 | h1 | h1
        · have h2 := (Pg_cons _ _ _).1 ((h (r.p + r.n)).2 ((Pg_cons _ _ _).2 (.inl ⟨by omega, by omega⟩)))
          rcases h2 with h2 | h2
          · omega
          · have := gl _ h2; omega
        · exact h1
        · have h2 := (Pg_cons _ _ _).1 ((h (s.p + s.n)).1 ((Pg_cons _ _ _).2 (.inl ⟨by omega, by omega⟩)))
          rcases h2 with h2 | h2
          · omega
          · have := gm _ h2; omega
      have e : r = s := by cases r; cases s; simp only at ep en; rw [ep, en]
      subst e
      congr 1
      refine ih m _ _ hl.2.2.2.2 hm.2.2.2.2 (fun x => ?_)
      have := h x
      rw [Pg_cons, Pg_cons] at this
      constructor
      · intro hx
        have h1 := gl x hx
        rcases this.1 (.inr hx) with h2 | h2
        · omega
        · exact h2
      · intro hx
        have h1 := gm x hx
        rcases this.2 (.inr hx) with h2 | h2
        · omega
        · exact h2

def total (l : List R) : Int := (l.map (·.n)).sum
theorem total_nil : total [] = 0 := rfl
theorem total_cons (r : R) (l : List R) : total (r :: l) = r.n + total l := rfl
theorem total_append (A B : List R) : total (A ++ B) = total A + total B := by simp [total]
theorem total_take_succ (l : List R) (k : Nat) (h : k < l.length) : total (l.take (k + 1)) = total (l.take k) + l[k].n := by
  rw [List.take_succ_eq_append_getElem h, total_append, total_cons, total_nil]
  omega
theorem total_nonneg {a N : Int} {l : List R} (h : Ok a N l) : 0 ≤ total l := by
  induction l generalizing a with
  | nil => exact Int.le_refl _
  | cons r l ih => rw [total_cons]; have := ih h.2.2.2.2; have := h.2.2.1; omega
theorem total_le {a N : Int} {l : List R} (h : Ok a N l) (ha : a ≤ N) : total l ≤ N - a := by
  induction l generalizing a with
  | nil => rw [total_nil]; omega
  | cons r l ih => rw [total_cons]; have := ih h.2.2.2.2 h.2.2.2.1; have := h.1; omega
theorem total_pos {a N : Int} {l : List R} (h : Ok a N l) (hl : l ≠ []) : 0 < total l := by
  cases l with
  | nil => exact absurd rfl hl
  | cons r l => rw [total_cons]; have := total_nonneg h.2.2.2.2; have := h.2.2.1; omega
theorem Ok.take {a N : Int} {l : List R} (h : Ok a N l) (k : Nat) : Ok a N (l.take k) := by
  have : Ok a N (l.take k ++ l.drop k) := by rw [List.take_append_drop]; exact h
  exact ((Ok_append _ _ _).1 this).1

/-- Whether one of n pages from p on is one of a run's. -/
def hasR (l : List R) (p n : Int) : Bool := decide (1 ≤ n) && l.any (fun r => decide (p < r.p + r.n) && decide (r.p - n < p))
theorem has_iff (l : List R) (p n : Int) (hn : 1 ≤ n) : hasR l p n = true ↔ ∃ r ∈ l, p < r.p + r.n ∧ r.p < p + n := by
  unfold hasR
  simp only [Bool.and_eq_true, decide_eq_true_eq, List.any_eq_true]
  constructor
  · rintro ⟨_, r, hr, h1, h2⟩; exact ⟨r, hr, h1, by omega⟩
  · rintro ⟨r, hr, h1, h2⟩; exact ⟨hn, r, hr, h1, by omega⟩
theorem has_pg {a N : Int} {l : List R} (h : Ok a N l) (p n : Int) (hn : 1 ≤ n) : hasR l p n = true ↔ ∃ x, p ≤ x ∧ x < p + n ∧ Pg l x := by
  rw [has_iff l p n hn]
  constructor
  · rintro ⟨r, hr, h1, h2⟩
    have := h.mem r hr
    rcases Int.le_total p r.p with h3 | h3
    · exact ⟨r.p, h3, h2, r, hr, by omega, by omega⟩
    · exact ⟨p, by omega, by omega, r, hr, h3, h1⟩
  · rintro ⟨x, h1, h2, r, hr, h3, h4⟩
    exact ⟨r, hr, by omega, by omega⟩
theorem hasR_not {a N : Int} {l : List R} (h : Ok a N l) (p n : Int) (hn : 1 ≤ n) : hasR l p n = false ↔ ∀ x, p ≤ x → x < p + n → ¬ Pg l x := by
  rw [← Bool.not_eq_true, has_pg h p n hn]
  constructor
  · intro h x h1 h2 h3; exact h ⟨x, h1, h2, h3⟩
  · rintro h ⟨x, h1, h2, h3⟩; exact h x h1 h2 h3
theorem has_far {l : List R} {p n : Int} (hn : 1 ≤ n) (h : hasR l p n = false) {r : R} (hr : r ∈ l) : r.p + r.n ≤ p ∨ p + n ≤ r.p := by
  rw [← Bool.not_eq_true, has_iff l p n hn] at h
  rcases Int.lt_or_le p (r.p + r.n) with h1 | h1
  · exact .inr (by
      rcases Int.lt_or_le r.p (p + n) with h2 | h2
      · exact absurd ⟨r, hr, h1, h2⟩ h
      · exact h2)
  · exact .inl h1

/-! The best run. -/
def IsBest (l : List R) (n b : Int) : Prop :=
  (b = -1 ∧ (n < 1 ∨ ∀ r ∈ l, r.n < n)) ∨
  ∃ (k : Nat) (h : k < l.length), b = k ∧ 1 ≤ n ∧ n ≤ l[k].n ∧ ∀ j (hj : j < l.length), n ≤ l[j].n → l[k].n ≤ l[j].n ∧ (j < k → l[k].n < l[j].n)
theorem IsBest.uniq {l : List R} {n b c : Int} (h : IsBest l n b) (g : IsBest l n c) : b = c := by
  rcases h with ⟨rfl, h⟩ | ⟨k, hk, rfl, h1, h2, h3⟩ <;> rcases g with ⟨rfl, g⟩ | ⟨m, hm, rfl, g1, g2, g3⟩
  · rfl
  · rcases h with h | h
    · omega
    · have := h _ (List.getElem_mem hm); omega
  · rcases g with g | g
    · omega
    · have := g _ (List.getElem_mem hk); omega
  · have a1 := h3 m hm g2
    have a2 := g3 k hk h2
    rcases Nat.lt_trichotomy k m with h | h | h
    · have := a2.2 h; omega
    · rw [h]
    · have := a1.2 h; omega
theorem IsBest.neg {l : List R} {n b : Int} (h : IsBest l n b) (hb : b < 0) : n < 1 ∨ ∀ r ∈ l, r.n < n := by
  rcases h with ⟨rfl, h⟩ | ⟨k, hk, rfl, h1, h2, h3⟩
  · exact h
  · omega
theorem IsBest.pos {l : List R} {n b : Int} (h : IsBest l n b) (hb : 0 ≤ b) : ∃ (k : Nat) (h : k < l.length), b = k ∧ 1 ≤ n ∧ n ≤ l[k].n ∧ ∀ j (hj : j < l.length), n ≤ l[j].n → l[k].n ≤ l[j].n ∧ (j < k → l[k].n < l[j].n) := by
  rcases h with ⟨rfl, h⟩ | h
  · omega
  · exact h
/-- By a loop from behind. -/
def best (n : Int) : List R → Int
  | [] => -1
  | r :: l => let k := best n l
    if n ≤ r.n ∧ 1 ≤ n ∧ (k < 0 ∨ r.n ≤ (l.getD k.toNat ⟨0, 0⟩).n) then 0 else if k < 0 then -1 else k + 1
theorem best_is (n : Int) (l : List R) : IsBest l n (best n l) := by
  induction l with
  | nil => exact .inl ⟨rfl, .inr (fun r h => by cases h)⟩
  | cons r l ih =>
    unfold best
    generalize best n l = b at ih ⊢
    simp only
    rcases ih with ⟨rfl, ih⟩ | ⟨k, hk, rfl, h1, h2, h3⟩
    · by_cases hc : n ≤ r.n ∧ 1 ≤ n
      · rw [if_pos ⟨hc.1, hc.2, .inl (by omega)⟩]
        refine .inr ⟨0, by simp, rfl, hc.2, hc.1, fun j hj hn => ?_⟩
        cases j with
        | zero => exact ⟨Int.le_refl _, fun h => by omega⟩
        | succ j =>
          exfalso
          rcases ih with ih | ih
          · omega
          · have := ih _ (List.getElem_mem (l := l) (n := j) (by simpa using hj)); simp at hn; omega
      · rw [if_neg (fun h => hc ⟨h.1, h.2.1⟩), if_pos (by omega)]
        refine .inl ⟨rfl, ?_⟩
        rcases ih with ih | ih
        · exact .inl ih
        · by_cases h1 : n < 1
          · exact .inl h1
          · refine .inr (fun s hs => ?_)
            rcases List.mem_cons.1 hs with rfl | hs
            · exact Int.not_le.1 (fun h => hc ⟨h, by omega⟩)
            · exact ih s hs
    · have eg : l.getD ((k : Int).toNat) ⟨0, 0⟩ = l[k] := by simp [List.getD, List.getElem?_eq_getElem hk]
      rw [eg]
      by_cases hc : n ≤ r.n ∧ r.n ≤ l[k].n
      · rw [if_pos ⟨hc.1, h1, .inr hc.2⟩]
        refine .inr ⟨0, by simp, rfl, h1, hc.1, fun j hj hn => ?_⟩
        cases j with
        | zero => exact ⟨Int.le_refl _, fun h => by omega⟩
        | succ j => have := (h3 j (by simpa using hj) (by simpa using hn)).1; exact ⟨by simp; omega, fun h => by omega⟩
      · rw [if_neg (fun h => hc ⟨h.1, h.2.2.resolve_left (by omega)⟩), if_neg (by omega)]
        refine .inr ⟨k + 1, by simpa using hk, by omega, h1, by simpa using h2, fun j hj hn => ?_⟩
        cases j with
        | zero =>
          simp only [List.getElem_cons_zero] at hn
          have : ¬ r.n ≤ l[k].n := fun h => hc ⟨hn, h⟩
          exact ⟨by simp; omega, fun _ => by simp; omega⟩
        | succ j =>
          have := h3 j (by simpa using hj) (by simpa using hn)
          refine ⟨by simpa using this.1, fun h => ?_⟩
          simpa using this.2 (by omega)
theorem best_eq {l : List R} {n b : Int} (h : IsBest l n b) : b = best n l := h.uniq (best_is n l)

/-! What is taken. -/
def left (l : List R) (k : Nat) (n : Int) : List R :=
  l.take k ++ ((if (l.getD k ⟨0, 0⟩).n = n then [] else [⟨(l.getD k ⟨0, 0⟩).p + n, (l.getD k ⟨0, 0⟩).n - n⟩]) ++ l.drop (k + 1))
theorem split_at (l : List R) (k : Nat) (h : k < l.length) : l = l.take k ++ (l.getD k ⟨0, 0⟩ :: l.drop (k + 1)) := by
  have : l.getD k ⟨0, 0⟩ = l[k] := by simp [List.getD, List.getElem?_eq_getElem h]
  rw [this, List.getElem_cons_drop, List.take_append_drop]
theorem left_ok {N : Int} {l : List R} {a : Int} (h : Ok a N l) (k : Nat) (hk : k < l.length) (n : Int) (hn : 1 ≤ n) (hle : n ≤ (l.getD k ⟨0, 0⟩).n) :
    Ok a N (left l k n) ∧ total (left l k n) = total l - n ∧ (∀ x, Pg l x ↔ Pg (left l k n) x ∨ ((l.getD k ⟨0, 0⟩).p ≤ x ∧ x < (l.getD k ⟨0, 0⟩).p + n)) ∧
    (∀ x, Pg (left l k n) x → ¬ ((l.getD k ⟨0, 0⟩).p ≤ x ∧ x < (l.getD k ⟨0, 0⟩).p + n)) := by
  have e := split_at l k hk
  generalize hA : l.take k = A at *
  generalize hB : l.drop (k + 1) = B at *
  generalize hr : l.getD k ⟨0, 0⟩ = r at *
  have h0 := h
  rw [e, Ok_append] at h
  obtain ⟨ha, h1, h2, h3, h4, hb⟩ := h
  have pgA : ∀ x, Pg A x → x < r.p := fun x ⟨s, hs, _, hx⟩ => by have := endOf_le ha s hs; omega
  have pgB : ∀ x, Pg B x → r.p + r.n < x := fun x hx => hb.pg hx
  have el : left l k n = A ++ ((if r.n = n then [] else [⟨r.p + n, r.n - n⟩]) ++ B) := by unfold left; rw [hA, hB, hr]
  rw [el]
  by_cases c : r.n = n
  · rw [if_pos c, List.nil_append]
    refine ⟨(Ok_append _ _ _).2 ⟨ha, hb.mono (by omega)⟩, ?_, fun x => ?_, fun x hx => ?_⟩
    · rw [e, total_append, total_append, total_cons]; omega
    · rw [e, Pg_append, Pg_append, Pg_cons, c]
      constructor
      · rintro (h | h | h)
        · exact .inl (.inl h)
        · exact .inr h
        · exact .inl (.inr h)
      · rintro ((h | h) | h)
        · exact .inl h
        · exact .inr (.inr h)
        · exact .inr (.inl h)
    · rw [Pg_append] at hx
      rcases hx with hx | hx
      · have := pgA x hx; omega
      · have := pgB x hx; omega
  · rw [if_neg c]
    refine ⟨(Ok_append _ _ _).2 ⟨ha, ?_⟩, ?_, fun x => ?_, fun x hx => ?_⟩
    · simp only [List.singleton_append, Ok]
      exact ⟨by omega, by omega, by omega, by omega, hb.mono (by omega)⟩
    · rw [e]
      simp only [total_append, total_cons, total_nil]
      omega
    · rw [e, Pg_append, Pg_append, Pg_cons, List.singleton_append, Pg_cons]
      simp only
      constructor
      · rintro (h | h | h)
        · exact .inl (.inl h)
        · by_cases c : x < r.p + n
          · exact .inr ⟨h.1, c⟩
          · exact .inl (.inr (.inl ⟨by omega, by omega⟩))
        · exact .inl (.inr (.inr h))
      · rintro ((h | h | h) | h)
        · exact .inl h
        · exact .inr (.inl ⟨by omega, by omega⟩)
        · exact .inr (.inr h)
        · exact .inr (.inl ⟨by omega, by omega⟩)
    · rw [Pg_append, List.singleton_append, Pg_cons] at hx
      simp only at hx
      rcases hx with hx | hx | hx
      · have := pgA x hx; omega
      · omega
      · have := pgB x hx; omega
end M
end Go.Proofs.Ytmagdhcpbofkbaa
/-
  The mathematics of runs: what is given back, by the program and by the document.
-/
namespace Go.Proofs.Ytmagdhcpbofkbaa
set_option linter.unusedVariables false
namespace M

/-- How many runs begin below a page. -/
def cnt (p : Int) : List R → Nat
  | [] => 0
  | r :: l => if r.p < p then cnt p l + 1 else 0
theorem cnt_le (p : Int) (l : List R) : cnt p l ≤ l.length := by
  induction l with
  | nil => exact Nat.le_refl _
  | cons r l ih => unfold cnt; split <;> simp <;> omega
theorem cnt_below (p : Int) (l : List R) : ∀ j (h : j < l.length), j < cnt p l → l[j].p < p := by
  induction l with
  | nil => intro j h; simp at h
  | cons r l ih =>
    intro j h hc
    unfold cnt at hc
    split at hc
    · cases j with
      | zero => assumption
      | succ j => exact ih j (by simpa using h) (by omega)
    · omega
theorem cnt_at (p : Int) (l : List R) (h : cnt p l < l.length) : p ≤ l[cnt p l].p := by
  induction l with
  | nil => simp at h
  | cons r l ih =>
    by_cases c : r.p < p
    · have e : cnt p (r :: l) = cnt p l + 1 := by simp [cnt, c]
      simp only [e, List.getElem_cons_succ]
      exact ih (by rw [e] at h; simpa using h)
    · have e : cnt p (r :: l) = 0 := by simp [cnt, c]
      simp only [e, List.getElem_cons_zero]
      omega
theorem cnt_of (p : Int) : ∀ (l : List R) (k : Nat), k ≤ l.length → (∀ j (h : j < l.length), j < k → l[j].p < p) → (∀ h : k < l.length, p ≤ l[k].p) → k = cnt p l := by
  intro l
  induction l with
  | nil => intro k hk _ _; simpa [cnt] using hk
  | cons r l ih =>
    intro k hk h1 h2
    cases k with
    | zero => have := h2 (by simp); simp only [List.getElem_cons_zero] at this; unfold cnt; rw [if_neg (by omega)]
    | succ k =>
      have := h1 0 (by simp) (by omega)
      simp only [List.getElem_cons_zero] at this
      unfold cnt
      rw [if_pos this, ← ih k (by simpa using hk) (fun j hj hjk => by have := h1 (j + 1) (by simpa using hj) (by omega); simpa using this) (fun h => by have := h2 (by simpa using h); simpa using this)]

/-- Whether the run ahead ends at a page; whether the run behind begins there. -/
def jA (l : List R) (k : Nat) (p : Int) : Bool := decide (0 < k) && decide ((l.getD (k - 1) ⟨0, 0⟩).p + (l.getD (k - 1) ⟨0, 0⟩).n = p)
def jB (l : List R) (k : Nat) (e : Int) : Bool := decide (k < l.length) && decide ((l.getD k ⟨0, 0⟩).p = e)
/-- The program's answer, from the place k. -/
def gA (l : List R) (k : Nat) (p n : Int) : R := if jA l k p = true then ⟨(l.getD (k - 1) ⟨0, 0⟩).p, (l.getD (k - 1) ⟨0, 0⟩).n + n⟩ else ⟨p, n⟩
def gB (l : List R) (k : Nat) (g : R) : R := if jB l k (g.p + g.n) = true then ⟨g.p, g.n + (l.getD k ⟨0, 0⟩).n⟩ else g
def fromA (l : List R) (k : Nat) (p : Int) : Nat := if jA l k p = true then k - 1 else k
def toB (l : List R) (k : Nat) (g : R) : Nat := if jB l k (g.p + g.n) = true then k + 1 else k
def give (l : List R) (p n : Int) : List R :=
  let k := cnt p l
  let g := gA l k p n
  l.take (fromA l k p) ++ (gB l k g :: l.drop (toB l k g))

/-- A run that is put between lists, ahead of which and behind which there is room. -/
theorem put_ok {N a p n : Int} {A B : List R} (hA : Ok a N A) (h1 : endOf a A < p) (h0 : 0 ≤ p) (hn : 1 ≤ n) (hN : p + n ≤ N) (hB : Ok (p + n) N B) : Ok a N (A ++ (⟨p, n⟩ :: B)) :=
  (Ok_append _ _ _).2 ⟨hA, h1, h0, hn, hN, hB⟩
theorem getD_mem (l : List R) (k : Nat) (h : k < l.length) : l.getD k ⟨0, 0⟩ ∈ l := by
  have : l.getD k ⟨0, 0⟩ = l[k] := by simp [List.getD, List.getElem?_eq_getElem h]
  rw [this]
  exact List.getElem_mem h
theorem getD_at (l : List R) (k : Nat) (h : k < l.length) : l.getD k ⟨0, 0⟩ = l[k] := by simp [List.getD, List.getElem?_eq_getElem h]
theorem drop_cons (l : List R) (k : Nat) (h : k < l.length) : l.drop k = l.getD k ⟨0, 0⟩ :: l.drop (k + 1) := by rw [getD_at l k h]; exact List.drop_eq_getElem_cons h
theorem take_snoc (l : List R) (k : Nat) (h0 : 0 < k) (h : k ≤ l.length) : l.take k = l.take (k - 1) ++ [l.getD (k - 1) ⟨0, 0⟩] := by
  obtain ⟨k, rfl⟩ : ∃ j, k = j + 1 := ⟨k - 1, by omega⟩
  rw [Nat.add_sub_cancel, getD_at l k (by omega), List.take_succ_eq_append_getElem (by omega)]

theorem give_ok {N : Int} {l : List R} {p n : Int} (h : Ok (-1) N l) (hp : 0 ≤ p) (hn : 1 ≤ n) (hN : p + n ≤ N) (hh : hasR l p n = false) :
    Ok (-1) N (give l p n) ∧ total (give l p n) = total l + n ∧ ∀ x, Pg (give l p n) x ↔ Pg l x ∨ (p ≤ x ∧ x < p + n) := by
  have hk := cnt_le p l
  have hbel := cnt_below p l
  have hat := cnt_at p l
  unfold give
  simp only
  generalize cnt p l = k at *
  have el : l = l.take k ++ l.drop k := (List.take_append_drop k l).symm
  have hok := h
  rw [el, Ok_append] at hok
  obtain ⟨oA, oB⟩ := hok
  have far : ∀ r ∈ l, r.p + r.n ≤ p ∨ p + n ≤ r.p := fun r hr => has_far hn hh hr
  have one : ∀ r ∈ l, 0 ≤ r.p ∧ 1 ≤ r.n ∧ r.p + r.n ≤ N := fun r hr => (h.mem r hr).2
  -- what stands ahead ends at p or below
  have ends : 0 < k → endOf (-1) (l.take k) = (l.getD (k - 1) ⟨0, 0⟩).p + (l.getD (k - 1) ⟨0, 0⟩).n ∧ (l.getD (k - 1) ⟨0, 0⟩).p + (l.getD (k - 1) ⟨0, 0⟩).n ≤ p := fun h0 => by
    rw [take_snoc l k h0 hk, endOf_append]
    refine ⟨rfl, ?_⟩
    have h1 := hbel (k - 1) (by omega) (by omega)
    have h2 := far _ (getD_mem l (k - 1) (by omega))
    rw [← getD_at l (k - 1) (by omega)] at h1
    omega
  have begs : k < l.length → p + n ≤ (l.getD k ⟨0, 0⟩).p := fun h0 => by
    have h1 := hat h0
    have h2 := far _ (getD_mem l k h0)
    have h3 := one _ (getD_mem l k h0)
    rw [← getD_at l k h0] at h1
    omega
  -- the first part
  have P1 : ∃ A, l.take (fromA l k p) = A ∧ ∃ g, gA l k p n = g ∧ Ok (-1) N A ∧ endOf (-1) A < g.p ∧ 0 ≤ g.p ∧ 1 ≤ g.n ∧ g.p + g.n = p + n ∧ total (l.take k) + n = total A + g.n ∧ ∀ x, (Pg A x ∨ (g.p ≤ x ∧ x < g.p + g.n)) ↔ (Pg (l.take k) x ∨ (p ≤ x ∧ x < p + n)) := by
    by_cases c : jA l k p = true
    · have c' := c
      unfold jA at c'
      simp only [Bool.and_eq_true, decide_eq_true_eq] at c'
      refine ⟨_, by rw [fromA, if_pos c], _, by rw [gA, if_pos c], ?_⟩
      have et := take_snoc l k c'.1 hk
      rw [et, Ok_append] at oA
      have hm := one _ (getD_mem l (k - 1) (by omega))
      generalize l.getD (k - 1) ⟨0, 0⟩ = r at *
      refine ⟨oA.1, oA.2.1, hm.1, by simp only; omega, by simp only; omega, ?_, fun x => ?_⟩
      · rw [et, total_append, total_cons, total_nil]; simp only; omega
      · rw [et, Pg_append, Pg_cons]
        simp only
        constructor
        · rintro (h | h)
          · exact .inl (.inl h)
          · by_cases hx : x < p
            · exact .inl (.inr (.inl (by omega)))
            · exact .inr (by omega)
        · rintro ((h | h | h) | h)
          · exact .inl h
          · exact .inr (by omega)
          · exact absurd h (Pg_nil _)
          · exact .inr (by omega)
    · refine ⟨_, by rw [fromA, if_neg c], _, by rw [gA, if_neg c], oA, ?_, hp, hn, rfl, rfl, fun x => Iff.rfl⟩
      show endOf (-1) (l.take k) < p
      rcases Nat.eq_zero_or_pos k with h0 | h0
      · subst h0
        show (-1 : Int) < p
        omega
      · have := ends h0
        have : ¬ (l.getD (k - 1) ⟨0, 0⟩).p + (l.getD (k - 1) ⟨0, 0⟩).n = p := fun e => c (by unfold jA; simp only [Bool.and_eq_true, decide_eq_true_eq]; exact ⟨h0, e⟩)
        omega
  obtain ⟨A, eA, g, eg, a1, a2, a3, a4, a5, a6, a7⟩ := P1
  rw [eA, eg]
  have tl : total l = total (l.take k) + total (l.drop k) := by rw [← total_append, List.take_append_drop]
  have pl : ∀ x, Pg l x ↔ Pg (l.take k) x ∨ Pg (l.drop k) x := fun x => by rw [← Pg_append, List.take_append_drop]
  by_cases c : jB l k (g.p + g.n) = true
  · have c' := c
    unfold jB at c'
    simp only [Bool.and_eq_true, decide_eq_true_eq] at c'
    rw [gB, if_pos c, toB, if_pos c]
    have ed := drop_cons l k c'.1
    have hm := one _ (getD_mem l k c'.1)
    have hb := begs c'.1
    rw [ed] at oB
    generalize l.getD k ⟨0, 0⟩ = r at *
    have oB' : Ok (r.p + r.n) N (l.drop (k + 1)) := oB.2.2.2.2
    refine ⟨put_ok a1 a2 a3 (by omega) (by omega) (oB'.mono (by omega)), ?_, fun x => ?_⟩
    · rw [tl, ed, total_append, total_cons, total_cons]; simp only; omega
    · have := a7 x
      rw [pl, ed, Pg_append, Pg_cons, Pg_cons]
      simp only
      constructor
      · rintro (h | h | h)
        · rcases this.1 (.inl h) with h | h
          · exact .inl (.inl h)
          · exact .inr h
        · by_cases hx : x < g.p + g.n
          · rcases this.1 (.inr ⟨h.1, hx⟩) with h | h
            · exact .inl (.inl h)
            · exact .inr h
          · exact .inl (.inr (.inl (by omega)))
        · exact .inl (.inr (.inr h))
      · rintro ((h | h | h) | h)
        · rcases this.2 (.inl h) with h | h
          · exact .inl h
          · exact .inr (.inl (by omega))
        · exact .inr (.inl (by omega))
        · exact .inr (.inr h)
        · rcases this.2 (.inr h) with h | h
          · exact .inl h
          · exact .inr (.inl (by omega))
  · rw [gB, if_neg c, toB, if_neg c]
    have oB' : Ok (g.p + g.n) N (l.drop k) := by
      rcases Nat.lt_or_ge k l.length with h0 | h0
      · have ed := drop_cons l k h0
        have hb := begs h0
        rw [ed] at oB ⊢
        refine ⟨?_, oB.2⟩
        have : ¬ (l.getD k ⟨0, 0⟩).p = g.p + g.n := fun e => c (by unfold jB; simp only [Bool.and_eq_true, decide_eq_true_eq]; exact ⟨h0, e⟩)
        omega
      · rw [List.drop_eq_nil_of_le h0]; trivial
    refine ⟨(Ok_append _ _ _).2 ⟨a1, a2, a3, a4, by omega, oB'⟩, ?_, fun x => ?_⟩
    · rw [tl, total_append, total_cons]; omega
    · have := a7 x
      rw [pl, Pg_append, Pg_cons]
      constructor
      · rintro (h | h | h)
        · rcases this.1 (.inl h) with h | h
          · exact .inl (.inl h)
          · exact .inr h
        · rcases this.1 (.inr h) with h | h
          · exact .inl (.inl h)
          · exact .inr h
        · exact .inl (.inr h)
      · rintro ((h | h) | h)
        · rcases this.2 (.inl h) with h | h
          · exact .inl h
          · exact .inr (.inl h)
        · exact .inr (.inr h)
        · rcases this.2 (.inr h) with h | h
          · exact .inl h
          · exact .inr (.inl h)

/-! The document's. -/
/-- Runs that begin at or above where the one ahead ends. -/
def Wk (a N : Int) : List R → Prop
  | [] => True
  | r :: l => a ≤ r.p ∧ 0 ≤ r.p ∧ 1 ≤ r.n ∧ r.p + r.n ≤ N ∧ Wk (r.p + r.n) N l
theorem Ok.wk {N : Int} {l : List R} : ∀ {a : Int}, Ok a N l → Wk a N l := by
  induction l with
  | nil => intro a _; trivial
  | cons r l ih => intro a h; exact ⟨by have := h.1; omega, h.2.1, h.2.2.1, h.2.2.2.1, ih h.2.2.2.2⟩
/-- The run is put ahead of the first one that begins above it. -/
def ins (l : List R) (p n : Int) : List R := l.take (cnt (p + 1) l) ++ (⟨p, n⟩ :: l.drop (cnt (p + 1) l))
theorem Wk_append {N : Int} (A B : List R) : ∀ a, Wk a N (A ++ B) ↔ Wk a N A ∧ Wk (endOf a A) N B := by
  induction A with
  | nil => intro a; simp [Wk, endOf]
  | cons r l ih => intro a; simp only [List.cons_append, Wk, endOf, ih]; simp only [and_assoc]
theorem ins_wk {N : Int} {l : List R} {p n : Int} (h : Ok (-1) N l) (hp : 0 ≤ p) (hn : 1 ≤ n) (hN : p + n ≤ N) (hh : hasR l p n = false) :
    Wk 0 N (ins l p n) ∧ ∀ x, Pg (ins l p n) x ↔ Pg l x ∨ (p ≤ x ∧ x < p + n) := by
  unfold ins
  have hk := cnt_le (p + 1) l
  have hbel := cnt_below (p + 1) l
  have hat := cnt_at (p + 1) l
  generalize cnt (p + 1) l = k at *
  have hok := h
  rw [← List.take_append_drop k l, Ok_append] at hok
  obtain ⟨oA, oB⟩ := hok
  have far : ∀ r ∈ l, r.p + r.n ≤ p ∨ p + n ≤ r.p := fun r hr => has_far hn hh hr
  have one : ∀ r ∈ l, 0 ≤ r.p ∧ 1 ≤ r.n ∧ r.p + r.n ≤ N := fun r hr => (h.mem r hr).2
  constructor
  · have w0 : ∀ (A : List R), Ok (-1) N A → Wk 0 N A := fun A hA => by
      cases A with
      | nil => trivial
      | cons r A => exact ⟨hA.2.1, hA.2.1, hA.2.2.1, hA.2.2.2.1, hA.2.2.2.2.wk⟩
    rw [Wk_append]
    refine ⟨w0 _ oA, ?_, hp, hn, hN, ?_⟩
    · rcases Nat.eq_zero_or_pos k with h0 | h0
      · subst h0; exact hp
      · rw [take_snoc l k h0 hk, endOf_append]
        show (l.getD (k - 1) ⟨0, 0⟩).p + (l.getD (k - 1) ⟨0, 0⟩).n ≤ p
        have h1 := hbel (k - 1) (by omega) (by omega)
        have h2 := far _ (getD_mem l (k - 1) (by omega))
        rw [← getD_at l (k - 1) (by omega)] at h1
        omega
    · rcases Nat.lt_or_ge k l.length with h0 | h0
      · have h1 := hat h0
        have h2 := far _ (getD_mem l k h0)
        have h3 := one _ (getD_mem l k h0)
        rw [← getD_at l k h0] at h1
        rw [drop_cons l k h0] at oB ⊢
        exact ⟨by simp only; omega, oB.2.1, oB.2.2.1, oB.2.2.2.1, oB.2.2.2.2.wk⟩
      · rw [List.drop_eq_nil_of_le h0]; trivial
  · intro x
    have pl : Pg l x ↔ Pg (l.take k) x ∨ Pg (l.drop k) x := by rw [← Pg_append, List.take_append_drop]
    rw [pl, Pg_append, Pg_cons]
    simp only
    constructor
    · rintro (h | h | h)
      · exact .inl (.inl h)
      · exact .inr h
      · exact .inl (.inr h)
    · rintro ((h | h) | h)
      · exact .inl h
      · exact .inr (.inr h)
      · exact .inr (.inl h)
/-- Whether a run goes on where runs end. -/
def meets (out : List R) (r : R) : Bool := decide (0 < out.length) && decide ((out.getD (out.length - 1) ⟨0, 0⟩).p + (out.getD (out.length - 1) ⟨0, 0⟩).n = r.p)
def add (out : List R) (r : R) : List R :=
  if meets out r = true then out.take (out.length - 1) ++ [⟨(out.getD (out.length - 1) ⟨0, 0⟩).p, (out.getD (out.length - 1) ⟨0, 0⟩).n + r.n⟩] else out ++ [r]
theorem add_ok {N : Int} {out : List R} {r : R} (h : Ok (-1) N out) (h1 : endOf 0 out ≤ r.p) (h0 : 0 ≤ r.p) (hn : 1 ≤ r.n) (hN : r.p + r.n ≤ N) :
    Ok (-1) N (add out r) ∧ endOf 0 (add out r) = r.p + r.n ∧ (∀ x, Pg (add out r) x ↔ Pg out x ∨ (r.p ≤ x ∧ x < r.p + r.n)) ∧ (add out r).length ≤ out.length + 1 := by
  have hend : 0 < out.length → ∀ a, endOf a out = (out.getD (out.length - 1) ⟨0, 0⟩).p + (out.getD (out.length - 1) ⟨0, 0⟩).n := fun h a => by
    have e := take_snoc out out.length h (Nat.le_refl _)
    rw [List.take_length] at e
    rw [e, endOf_append, ← e]
    rfl
  unfold add
  by_cases c : meets out r = true
  · rw [if_pos c]
    unfold meets at c
    simp only [Bool.and_eq_true, decide_eq_true_eq] at c
    have e := take_snoc out out.length c.1 (Nat.le_refl _)
    rw [List.take_length] at e
    have hlen : (out.take (out.length - 1)).length + 1 = out.length := by simp; omega
    generalize out.getD (out.length - 1) ⟨0, 0⟩ = s at *
    generalize out.take (out.length - 1) = A at *
    rw [e, Ok_append] at h
    obtain ⟨hA, b1, b2, b3, b4, _⟩ := h
    refine ⟨put_ok hA b1 b2 (by omega) (by omega) trivial, ?_, fun x => ?_, by simp; omega⟩
    · rw [endOf_append]; show s.p + (s.n + r.n) = _; omega
    · rw [e, Pg_append, Pg_append, Pg_cons, Pg_cons]
      simp only
      constructor
      · rintro (h | h | h)
        · exact .inl (.inl h)
        · by_cases hx : x < r.p
          · exact .inl (.inr (.inl (by omega)))
          · exact .inr (by omega)
        · exact absurd h (Pg_nil _)
      · rintro ((h | h | h) | h)
        · exact .inl h
        · exact .inr (.inl (by omega))
        · exact absurd h (Pg_nil _)
        · exact .inr (.inl (by omega))
  · rw [if_neg c]
    refine ⟨(Ok_append _ _ _).2 ⟨h, ?_, h0, hn, hN, trivial⟩, ?_, fun x => ?_, by simp⟩
    · rcases Nat.eq_zero_or_pos out.length with h2 | h2
      · have : out = [] := List.eq_nil_of_length_eq_zero h2
        subst this
        show (-1 : Int) < r.p
        omega
      · rw [hend h2] at h1 ⊢
        have : ¬ (out.getD (out.length - 1) ⟨0, 0⟩).p + (out.getD (out.length - 1) ⟨0, 0⟩).n = r.p := fun e => c (by unfold meets; simp only [Bool.and_eq_true, decide_eq_true_eq]; exact ⟨h2, e⟩)
        omega
    · rw [endOf_append]; rfl
    · rw [Pg_append, Pg_cons]
      simp only [Pg_nil, or_false]
def mrg (out : List R) (l : List R) : List R := l.foldl add out
theorem mrg_ok {N : Int} (l : List R) : ∀ (out : List R), Ok (-1) N out → Wk (endOf 0 out) N l →
    Ok (-1) N (mrg out l) ∧ ∀ x, Pg (mrg out l) x ↔ Pg out x ∨ Pg l x := by
  induction l with
  | nil => intro out h _; exact ⟨h, fun x => by simp only [Pg_nil, or_false]; rfl⟩
  | cons r l ih =>
    intro out h hw
    have ha := add_ok h hw.1 hw.2.1 hw.2.2.1 hw.2.2.2.1
    have := ih (add out r) ha.1 (by rw [ha.2.1]; exact hw.2.2.2.2)
    refine ⟨this.1, fun x => ?_⟩
    show Pg (mrg (add out r) l) x ↔ _
    rw [this.2 x, ha.2.2.1, Pg_cons, or_assoc]
theorem mrg_take (l : List R) (k : Nat) (h : k < l.length) : mrg [] (l.take (k + 1)) = add (mrg [] (l.take k)) l[k] := by
  unfold mrg
  rw [List.take_succ_eq_append_getElem h, List.foldl_append]
  rfl
/-- The program's answer is the document's. -/
theorem give_eq {N : Int} {l : List R} {p n : Int} (h : Ok (-1) N l) (hp : 0 ≤ p) (hn : 1 ≤ n) (hN : p + n ≤ N) (hh : hasR l p n = false) : give l p n = mrg [] (ins l p n) := by
  have h1 := give_ok h hp hn hN hh
  have h2 := ins_wk h hp hn hN hh
  have h3 := mrg_ok (N := N) (ins l p n) [] trivial h2.1
  exact uniq N N _ _ _ _ h1.1 h3.1 (fun x => by rw [h1.2.2, h3.2, h2.2]; simp only [Pg_nil, false_or])
theorem give_length {l : List R} {p n : Int} : (give l p n).length ≤ l.length + 1 := by
  unfold give
  simp only [List.length_append, List.length_cons, List.length_take, List.length_drop]
  have := cnt_le p l
  unfold fromA toB
  split <;> split <;> omega
theorem left_length {l : List R} {k : Nat} {n : Int} (h : k < l.length) : (left l k n).length ≤ l.length := by
  unfold left
  split <;> simp only [List.length_append, List.length_cons, List.length_take, List.length_drop, List.length_nil] <;> omega
end M
end Go.Proofs.Ytmagdhcpbofkbaa
/-
  Runs in memory; the small functions: fits, end, some, rest, joined.
-/
namespace Go.Proofs.Ytmagdhcpbofkbaa
open Go.ChangeShapes Go.WideShapes Go.ChangeAt Go.RowKit Go.Deep
set_option linter.unusedVariables false
set_option maxRecDepth 20000

def runV (p n : Int) : Value := .agg #[.int .i64 p, .int .i64 n]
/-- A list of runs at a slice's address. -/
def Runs (w : World) (A : Option Addr) (l : List M.R) : Prop := 0 < l.length → ∃ bl o, A = some ⟨bl, o, none⟩ ∧ ∀ i (h : i < l.length), w.cell? ⟨bl, o + i * 2, none⟩ = some (.int .i64 l[i].p) ∧ w.cell? ⟨bl, o + i * 2 + 1, none⟩ = some (.int .i64 l[i].n)
section
variable {w w' : World} {A : Option Addr} {l : List M.R}
theorem Runs.keep (h : Runs w A l) (hb : ∀ p : Addr, p.block < w.heap.size → w'.cell? p = w.cell? p) : Runs w' A l := fun hn => by
  obtain ⟨bl, o, e, hc⟩ := h hn
  exact ⟨bl, o, e, fun i hi => ⟨(hb _ (lt_of_cell (hc i hi).1)).trans (hc i hi).1, (hb _ (lt_of_cell (hc i hi).2)).trans (hc i hi).2⟩⟩
theorem Runs.below (h : Runs w A l) (hb : Below w.heap.size w w') : Runs w' A l := h.keep fun _ hp => hb.cell hp
theorem Runs.alloc (h : Runs w A l) (o : Obj) : Runs (w.alloc o) A l := h.keep fun p hp => World.cell?_alloc_lt w o p hp
theorem Runs.drew (h : Runs w A l) : Runs w.drew A l := h
theorem Runs.drewN (h : Runs w A l) (n : Nat) : Runs (w.drewN n) A l := h
theorem Runs.nil : Runs w A [] := fun h => absurd h (by simp)
end

def rfitsB (p n N : Int) : Bool := decide (0 ≤ p) && (decide (1 ≤ n) && decide (p + n ≤ N))
theorem rfitsB_iff (p n N : Int) : rfitsB p n N = true ↔ 0 ≤ p ∧ 1 ≤ n ∧ p + n ≤ N := by simp [rfitsB]

set_option maxHeartbeats 1000000 in
theorem rfits_any (w : World) (p n N : Int) (hN : N ≤ 9223372036854775807) :
    Calls Try.prog 73 #[.agg #[.int .i64 p, .int .i64 n], .int .i64 N] w fun e w' => e = .returned (.bool (rfitsB p n N)) ∧ Below w.heap.size w w' := by
  have HS := Lib.hid (Below.refl w.heap.size w)
  have f0 : ¬ (0 ≤ p ∧ 1 ≤ n ∧ p + n ≤ N) → rfitsB p n N = false := fun h => by rw [← Bool.not_eq_true, rfitsB_iff]; exact h
  have f1 : (0 ≤ p ∧ 1 ≤ n ∧ p + n ≤ N) → rfitsB p n N = true := fun h => (rfitsB_iff p n N).2 h
  have F0 := Lib.hid f0
  have F1 := Lib.hid f1
  clear f0 f1
  go_enter Try.func73, Try.ntmps73
  by_cases c1 : 0 ≤ p
  · by_cases c2 : 1 ≤ n
    · by_cases c3 : p ≤ N
      · have hs : wrap64 (N - p) = N - p := by unfold wrap64; omega
        by_cases c4 : n ≤ N - p
        · go_wp2_with fail
          go_ret
          exact ⟨retB (by rw [F1.out ⟨c1, c2, by omega⟩]), (Below.refl _ _).alloc (Nat.le_refl _) _⟩
        · go_wp2_with fail
          go_ret
          exact ⟨retB (by rw [F0.out (by omega)]), (Below.refl _ _).alloc (Nat.le_refl _) _⟩
      · go_wp2_with fail
        go_ret
        exact ⟨retB (by rw [F0.out (by omega)]), (Below.refl _ _).alloc (Nat.le_refl _) _⟩
    · go_wp2_with fail
      go_ret
      exact ⟨retB (by rw [F0.out (by omega)]), (Below.refl _ _).alloc (Nat.le_refl _) _⟩
  · go_wp2_with fail
    go_ret
    exact ⟨retB (by rw [F0.out (by omega)]), (Below.refl _ _).alloc (Nat.le_refl _) _⟩

theorem end_any (w : World) (p n s : Int) (hs : p + n = s) (h1 : -9223372036854775808 ≤ s) (h2 : s ≤ 9223372036854775807) :
    Calls Try.prog 75 #[.agg #[.int .i64 p, .int .i64 n]] w fun e w' => e = .returned (.int .i64 s) ∧ Below w.heap.size w w' := by
  have hw : wrap64 (p + n) = s := by unfold wrap64; omega
  clear hs
  go_enter Try.func75, Try.ntmps75
  go_wp2_with fail
  go_ret
  exact ⟨ret1 hw, (Below.refl _ _).alloc (Nat.le_refl _) _⟩

set_option maxHeartbeats 1000000 in
theorem some_any (w : World) (p n : Int) (b : Bool) (hb : b = !(decide (p = 0) && decide (n = 0))) :
    Calls Try.prog 89 #[.agg #[.int .i64 p, .int .i64 n]] w fun e w' => e = .returned (.bool b) ∧ Below w.heap.size w w' := by
  have HB := Lib.hid hb
  clear hb
  go_enter Try.func89, Try.ntmps89
  by_cases c1 : p = 0
  · subst c1
    by_cases c2 : n = 0
    · subst c2
      go_wp2_with fail
      go_ret
      exact ⟨retB (by rw [HB.out]; rfl), (Below.refl _ _).alloc (Nat.le_refl _) _⟩
    · go_wp2_with fail
      go_ret
      exact ⟨retB (by rw [HB.out]; simp [c2]), (Below.refl _ _).alloc (Nat.le_refl _) _⟩
  · go_wp2_with fail
    go_ret
    exact ⟨retB (by rw [HB.out]; simp [c1]), (Below.refl _ _).alloc (Nat.le_refl _) _⟩

set_option maxHeartbeats 1000000 in
theorem rest_any (w : World) (p n k a b : Int) (ha : a = if n = k then 0 else p + k) (hb : b = n - k) (h1 : -9223372036854775808 ≤ p + k) (h2 : p + k ≤ 9223372036854775807) (h3 : -9223372036854775808 ≤ n - k) (h4 : n - k ≤ 9223372036854775807) :
    Calls Try.prog 83 #[.agg #[.int .i64 p, .int .i64 n], .int .i64 k] w fun e w' => e = .returned (.agg #[.int .i64 a, .int .i64 b]) ∧ Below w.heap.size w w' := by
  have bw : ∀ o1 o2, Below w.heap.size w ((w.alloc o1).alloc o2) := fun o1 o2 => ((Below.refl w.heap.size w).alloc (Nat.le_refl _) o1).alloc (by simp) o2
  have BW := Lib.hid bw
  clear bw
  go_enter Try.func83, Try.ntmps83
  by_cases c : n = k
  · have e1 : a = 0 := by rw [ha, if_pos c]
    have e2 : b = 0 := by omega
    clear ha hb h1 h2 h3 h4
    subst e1 e2 c
    go_wp2_with fail
    refine bodyPost_ret (v := .agg #[.int .i64 0, .int .i64 0]) ?_ rfl ?_
    · simp [results, go_sem]
    · exact ⟨rfl, BW.out _ _⟩
  · have e1 : a = p + k := by rw [ha, if_neg c]
    have s1 : wrap64 (p + k) = a := by unfold wrap64; omega
    have s2 : wrap64 (n - k) = b := by unfold wrap64; omega
    clear ha hb h1 h2 h3 h4 e1
    go_wp2_with fail
    rw [s1, s2]
    refine bodyPost_ret (v := .agg #[.int .i64 a, .int .i64 b]) ?_ rfl ?_
    · simp [results, go_sem]
    · exact ⟨rfl, BW.out _ _⟩

set_option maxHeartbeats 1000000 in
theorem joined_any (w : World) (p n q m s : Int) (hs : n + m = s) (h1 : -9223372036854775808 ≤ s) (h2 : s ≤ 9223372036854775807) :
    Calls Try.prog 76 #[.agg #[.int .i64 p, .int .i64 n], .agg #[.int .i64 q, .int .i64 m]] w fun e w' => e = .returned (.agg #[.int .i64 p, .int .i64 s]) ∧ Below w.heap.size w w' := by
  have bw : ∀ o1 o2 o3, Below w.heap.size w (((w.alloc o1).alloc o2).alloc o3) := fun o1 o2 o3 => (((Below.refl w.heap.size w).alloc (Nat.le_refl _) o1).alloc (by simp) o2).alloc (by simp; omega) o3
  have BW := Lib.hid bw
  have s1 : wrap64 (n + m) = s := by unfold wrap64; omega
  clear bw hs
  go_enter Try.func76, Try.ntmps76
  go_wp2_with fail
  rw [s1]
  refine bodyPost_ret (v := .agg #[.int .i64 p, .int .i64 s]) ?_ rfl ?_
  · simp [results, go_sem]
  · exact ⟨rfl, BW.out _ _ _⟩
/-- A variable that holds a run. -/
structure Box (w : World) (g : Nat) (p n : Int) : Prop where
  c0 : w.cell? ⟨g, 0, none⟩ = some (.int .i64 p)
  c1 : w.cell? ⟨g, 1, none⟩ = some (.int .i64 n)
  f0 : w.frozen? ⟨g, 0, none⟩ = false
  f1 : w.frozen? ⟨g, 1, none⟩ = false
section
variable {w w' : World} {g : Nat} {p n : Int}
theorem Box.lt (h : Box w g p n) : g < w.heap.size := lt_of_cell h.c0
theorem Box.keep (h : Box w g p n) (hb : w'.heap[g]? = w.heap[g]?) : Box w' g p n :=
  ⟨(World.cell?_of_block (w := w) (a := ⟨g, 0, none⟩) hb).trans h.c0, (World.cell?_of_block (w := w) (a := ⟨g, 1, none⟩) hb).trans h.c1, (World.frozen?_of_block (w := w) (a := ⟨g, 0, none⟩) hb).trans h.f0, (World.frozen?_of_block (w := w) (a := ⟨g, 1, none⟩) hb).trans h.f1⟩
theorem Box.below (h : Box w g p n) (hb : Below w.heap.size w w') : Box w' g p n := h.keep (hb.block g h.lt)
theorem Box.alloc (h : Box w g p n) (o : Obj) : Box (w.alloc o) g p n := h.keep (Below.heap_alloc w o g h.lt)
theorem Box.drew (h : Box w g p n) : Box w.drew g p n := ⟨h.c0, h.c1, h.f0, h.f1⟩
theorem Box.drewN (h : Box w g p n) (k : Nat) : Box (w.drewN k) g p n := ⟨h.c0, h.c1, h.f0, h.f1⟩
theorem Box.new (w : World) (t : TypeId) (p n : Int) : Box (w.alloc (.cells #[.int .i64 p, .int .i64 n] t)) w.heap.size p n :=
  ⟨by rw [World.cell?_alloc_mark]; rfl, by rw [World.cell?_alloc_mark]; rfl, by rw [World.frozen?_alloc_mark]; simp, by rw [World.frozen?_alloc_mark]; simp⟩
theorem Box.set (h : Box w g p n) (q m : Int) : Box ((w.setCell ⟨g, 0, none⟩ (.int .i64 q)).setCell ⟨g, 1, none⟩ (.int .i64 m)) g q m := by
  refine ⟨?_, ?_, ?_, ?_⟩
  · rw [World.cell?_setCell_other _ _ _ _ (by simp)]
    exact World.cell?_setCell_same _ _ _ h.c0
  · refine World.cell?_setCell_same _ _ _ (show World.cell? _ _ = some (.int .i64 n) from ?_)
    rw [World.cell?_setCell_other _ _ _ _ (by simp)]
    exact h.c1
  · rw [World.frozen?_setCell, World.frozen?_setCell]; exact h.f0
  · rw [World.frozen?_setCell, World.frozen?_setCell]; exact h.f1
theorem below_set {B : Nat} {a : World} (h : Below B a w) (hg : B ≤ g) (v u : Value) : Below B a ((w.setCell ⟨g, 0, none⟩ v).setCell ⟨g, 1, none⟩ u) := (h.setCell (p := ⟨g, 0, none⟩) hg v).setCell (p := ⟨g, 1, none⟩) hg u
end
end Go.Proofs.Ytmagdhcpbofkbaa
/-
  The program's functions that only read a list of runs: Total, Has, Best, Right.
-/
namespace Go.Proofs.Ytmagdhcpbofkbaa
open Go.ChangeShapes Go.WideShapes Go.ChangeAt Go.RowKit Go.Deep
set_option linter.unusedVariables false
set_option maxRecDepth 20000

theorem ok_at {a N : Int} {l : List M.R} (h : M.Ok a N l) (k : Nat) (hk : k < l.length) : a < l[k].p ∧ 0 ≤ l[k].p ∧ 1 ≤ l[k].n ∧ l[k].p + l[k].n ≤ N := h.mem _ (List.getElem_mem hk)
theorem total_between {N : Int} {l : List M.R} (h : M.Ok (-1) N l) (hN : 0 ≤ N) (k : Nat) : 0 ≤ M.total (l.take k) ∧ M.total (l.take k) ≤ N + 1 := ⟨M.total_nonneg (h.take k), by have := M.total_le (h.take k) (by omega); omega⟩

def hit (r : M.R) (p n : Int) : Bool := decide (p < r.p + r.n) && decide (r.p - n < p)
theorem has_eq (l : List M.R) (p n : Int) : M.hasR l p n = (decide (1 ≤ n) && l.any (fun r => hit r p n)) := rfl
theorem has_yes {l : List M.R} {p n : Int} (hn : 1 ≤ n) (k : Nat) (hk : k < l.length) (h : hit l[k] p n = true) : M.hasR l p n = true := by
  rw [has_eq]
  simp only [Bool.and_eq_true, decide_eq_true_eq, List.any_eq_true]
  exact ⟨hn, l[k], List.getElem_mem hk, h⟩
theorem has_no {l : List M.R} {p n : Int} (h : ∀ j (h : j < l.length), hit l[j] p n = false) : M.hasR l p n = false := by
  rw [has_eq]
  have : l.any (fun r => hit r p n) = false := by
    rw [List.any_eq_false]
    intro r hr
    obtain ⟨j, hj, rfl⟩ := List.getElem_of_mem hr
    rw [h j hj]
    simp
  rw [this, Bool.and_false]
theorem has_small {l : List M.R} {p n : Int} (h : n < 1) : M.hasR l p n = false := by
  rw [has_eq]
  have : decide (1 ≤ n) = false := by simp; omega
  rw [this, Bool.false_and]

set_option maxHeartbeats 1000000 in
theorem has_any (w : World) (A : Option Addr) (l : List M.R) (z c : Nat) (hz : z = l.length) (hA : Runs w A l) (hl : z ≤ 9223372036854775807) (hok : M.Ok (-1) 1073741824 l) (pg n : Int) (hp1 : -9223372036854775808 ≤ pg) (hp2 : pg ≤ 9223372036854775807) (hn2 : n ≤ 9223372036854775807) :
    Calls Try.prog 74 #[.slice A z c, .int .i64 pg, .int .i64 n] w fun e w' => e = .returned (.bool (M.hasR l pg n)) ∧ Below w.heap.size w w' := by
  have HZ := Lib.hid hz
  have HA := Lib.hid hA
  have HO := Lib.hid hok
  clear hz hA hok
  go_enter Try.func74, Try.ntmps74
  by_cases hn1 : n < 1
  · go_wp2_with fail
    go_ret
    exact ⟨retB (by rw [has_small hn1]), Below.refl _ _⟩
  go_wp2_with fail
  go_loopw [13] (fun i wr => ∃ k : Nat, k ≤ z ∧ i = .int .i64 (k : Int) ∧ (∀ j (h : j < l.length), j < k → hit l[j] pg n = false) ∧ Below w.heap.size w wr) (fun i _ => z - (intOf i).toNat)
  case atStart => exact ⟨0, by omega, rfl, fun j _ h => by omega, Below.refl _ _⟩
  case round =>
    obtain ⟨k, hk, rfl, hg, hb⟩ := hrel
    have HB := Lib.hid hb
    have HG := Lib.hid hg
    clear hb hg
    by_cases hlt : k < z
    · have hkl : k < l.length := by have := HZ.out; omega
      obtain ⟨bl, o, rfl, hc⟩ := HA.out (by omega)
      have c0 := (hc k hkl).1
      have c1 := (hc k hkl).2
      have b0 := ok_at HO.out k hkl
      have yes := has_yes (l := l) (p := pg) (n := n) (by omega) k hkl
      have nxt : hit l[k] pg n = false → ∀ j (h : j < l.length), j < k + 1 → hit l[j] pg n = false := fun h j hj hjk => by
        rcases Nat.lt_or_ge j k with h1 | h1
        · exact HG.out j hj h1
        · have e : j = k := by omega
          subst e
          exact h
      obtain ⟨x, hx⟩ : ∃ x, x = l[k] := ⟨_, rfl⟩
      rw [← hx] at c0 c1 b0 yes nxt
      obtain ⟨p, m⟩ := x
      simp only at c0 c1 b0
      obtain ⟨s, hs⟩ : ∃ s, p + m = s := ⟨_, rfl⟩
      obtain ⟨d, hd⟩ : ∃ d, d = p - n := ⟨_, rfl⟩
      have hit' : hit ⟨p, m⟩ pg n = (decide (pg < s) && decide (d < pg)) := by rw [← hs, hd]; rfl
      have s1 : wrap64 (p - n) = d := by unfold wrap64; omega
      have HS := Lib.hid (show p + m = s ∧ -9223372036854775808 ≤ s ∧ s ≤ 9223372036854775807 from ⟨hs, by omega, by omega⟩)
      have d0 := (HB.out.cell (lt_of_cell c0)).trans c0
      have d1 := (HB.out.cell (lt_of_cell c1)).trans c1
      have YES := Lib.hid yes
      have NXT := Lib.hid nxt
      have HIT := Lib.hid hit'
      clear hx b0 hs hd hc c0 c1 hk yes nxt hit' HG
      by_cases t1 : pg < s
      · by_cases t2 : d < pg
        · go_wp2_with (go_at_call 75; refine (end_any _ p m s HS.out.1 HS.out.2.1 HS.out.2.2).mono ?_; rintro e w5 ⟨rfl, hb5⟩; (have q0 : w5.cell? ⟨wr.heap.size, 0, none⟩ = some (.int .i64 p) := (hb5.cell (p := ⟨wr.heap.size, 0, none⟩) (by simp)).trans (by rw [World.cell?_alloc_mark]; rfl)); (have B5 := Lib.hid (below_call (HB.out.alloc HB.out.size _) (hb5.mono (by simp)))); clear hb5)
          go_ret
          exact ⟨retB (YES.out (by rw [HIT.out]; simp [t1, t2])).symm, B5.out⟩
        · go_wp2_with (go_at_call 75; refine (end_any _ p m s HS.out.1 HS.out.2.1 HS.out.2.2).mono ?_; rintro e w5 ⟨rfl, hb5⟩; (have q0 : w5.cell? ⟨wr.heap.size, 0, none⟩ = some (.int .i64 p) := (hb5.cell (p := ⟨wr.heap.size, 0, none⟩) (by simp)).trans (by rw [World.cell?_alloc_mark]; rfl)); (have B5 := Lib.hid (below_call (HB.out.alloc HB.out.size _) (hb5.mono (by simp)))); clear hb5)
          go_roundw
          case rel => exact ⟨k + 1, by omega, by go_num, NXT.out (by rw [HIT.out]; simp [t1, t2]), B5.out⟩
          case measure => simp [intOf]; omega
      · go_wp2_with (go_at_call 75; refine (end_any _ p m s HS.out.1 HS.out.2.1 HS.out.2.2).mono ?_; rintro e w5 ⟨rfl, hb5⟩; (have B5 := Lib.hid (below_call (HB.out.alloc HB.out.size _) (hb5.mono (by simp)))); clear hb5)
        go_roundw
        case rel => exact ⟨k + 1, by omega, by go_num, NXT.out (by rw [HIT.out, show decide (pg < s) = false by simp; omega, Bool.false_and]), B5.out⟩
        case measure => simp [intOf]; omega
    · go_wp2_with fail
      go_ret
      exact ⟨retB (has_no (fun j hj => HG.out j hj (by have := HZ.out; omega))).symm, HB.out⟩

end Go.Proofs.Ytmagdhcpbofkbaa
/-
  The program's Best and Right.
-/
namespace Go.Proofs.Ytmagdhcpbofkbaa
open Go.ChangeShapes Go.WideShapes Go.ChangeAt Go.RowKit Go.Deep
set_option linter.unusedVariables false
set_option maxRecDepth 20000

namespace M
/-- The best one so far, one run further. -/
theorem IsBest.skip {l : List R} {n b : Int} {r : R} (h : IsBest l n b) (hr : r.n < n ∨ (0 ≤ b ∧ ∀ k (hk : k < l.length), b = k → l[k].n ≤ r.n)) : IsBest (l ++ [r]) n b := by
  rcases h with ⟨rfl, h⟩ | ⟨k, hk, rfl, h1, h2, h3⟩
  · refine .inl ⟨rfl, h.imp id (fun h s hs => ?_)⟩
    rcases List.mem_append.1 hs with hs | hs
    · exact h s hs
    · rw [List.mem_singleton] at hs
      subst hs
      rcases hr with hr | ⟨hr, _⟩
      · exact hr
      · omega
  · refine .inr ⟨k, by simp; omega, rfl, h1, by rw [List.getElem_append_left hk]; exact h2, fun j hj hn => ?_⟩
    rw [List.getElem_append_left hk]
    rcases Nat.lt_or_ge j l.length with hjl | hjl
    · rw [List.getElem_append_left hjl] at hn ⊢
      exact h3 j hjl hn
    · have e : j = l.length := by simp at hj; omega
      subst e
      rw [List.getElem_append_right (Nat.le_refl _)] at hn ⊢
      simp only [Nat.sub_self, List.getElem_cons_zero] at hn ⊢
      rcases hr with hr | ⟨_, hr⟩
      · omega
      · exact ⟨hr k hk rfl, fun h => by omega⟩
theorem IsBest.take {l : List R} {n b : Int} {r : R} (h : IsBest l n b) (hn : 1 ≤ n) (hr : n ≤ r.n) (hb : b < 0 ∨ ∃ k, ∃ hk : k < l.length, b = (k : Nat) ∧ r.n < l[k].n) : IsBest (l ++ [r]) n (l.length : Int) := by
  refine .inr ⟨l.length, by simp, rfl, hn, by simpa using hr, fun j hj hjn => ?_⟩
  have el : (l ++ [r])[l.length]'(by simp) = r := by simp
  rw [el]
  rcases Nat.lt_or_ge j l.length with hjl | hjl
  · rw [List.getElem_append_left hjl] at hjn ⊢
    rcases h with ⟨rfl, h⟩ | ⟨k, hk, rfl, h1, h2, h3⟩
    · exfalso
      rcases h with h | h
      · omega
      · have := h _ (List.getElem_mem hjl); omega
    · have := h3 j hjl hjn
      rcases hb with hb | ⟨k', hk', e, hb⟩
      · omega
      · have e : k = k' := by omega
        subst e
        exact ⟨by omega, fun _ => by omega⟩
  · have e : j = l.length := by simp at hj; omega
    subst e
    rw [el]
    exact ⟨Int.le_refl _, fun h => by omega⟩
theorem best_none {l : List R} {n : Int} (h : n < 1) : best n l = -1 := (best_eq (.inl ⟨rfl, .inl h⟩)).symm
end M

/-- What is known of the best run so far. -/
def Upto (l : List M.R) (n : Int) (k : Nat) (b p m : Int) : Prop :=
  M.IsBest (l.take k) n b ∧ ((b = -1 ∧ p = 0 ∧ m = 0) ∨ ∃ j, ∃ h : j < l.length, j < k ∧ b = (j : Nat) ∧ p = l[j].p ∧ m = l[j].n)
theorem Upto.skip {l : List M.R} {n : Int} {k : Nat} {b p m : Int} (h : Upto l n k b p m) (hk : k < l.length) (hr : l[k].n < n ∨ (b ≠ -1 ∧ m ≤ l[k].n)) : Upto l n (k + 1) b p m := by
  obtain ⟨h1, h2⟩ := h
  refine ⟨?_, h2.imp id (fun ⟨j, hj, h⟩ => ⟨j, hj, by omega, h.2⟩)⟩
  rw [List.take_succ_eq_append_getElem hk]
  refine h1.skip (hr.imp id (fun ⟨ha, hb⟩ => ?_))
  rcases h2 with ⟨rfl, _⟩ | ⟨j, hj, hjk, rfl, _, rfl⟩
  · exact absurd rfl ha
  · refine ⟨by omega, fun i hi e => ?_⟩
    have e : j = i := by omega
    subst e
    rw [List.getElem_take]
    exact hb
theorem Upto.take {l : List M.R} {n : Int} {k : Nat} {b p m : Int} (h : Upto l n k b p m) (hk : k < l.length) (hn : 1 ≤ n) (hr : n ≤ l[k].n) (hb : b = -1 ∨ l[k].n < m) : Upto l n (k + 1) (k : Int) l[k].p l[k].n := by
  obtain ⟨h1, h2⟩ := h
  refine ⟨?_, .inr ⟨k, hk, by omega, rfl, rfl, rfl⟩⟩
  rw [List.take_succ_eq_append_getElem hk]
  have := h1.take (r := l[k]) hn hr (by
    rcases h2 with ⟨rfl, _⟩ | ⟨j, hj, hjk, rfl, _, rfl⟩
    · exact .inl (by omega)
    · rcases hb with hb | hb
      · omega
      · exact .inr ⟨j, by rw [List.length_take]; omega, rfl, by rw [List.getElem_take]; exact hb⟩)
  rw [List.length_take, Nat.min_eq_left (by omega)] at this
  exact this

set_option maxHeartbeats 2000000 in
theorem best_any (w : World) (A : Option Addr) (l : List M.R) (z c : Nat) (hz : z = l.length) (hA : Runs w A l) (hl : z ≤ 9223372036854775807) (n : Int) :
    Calls Try.prog 82 #[.slice A z c, .int .i64 n] w fun e w' => e = .returned (.int .i64 (M.best n l)) ∧ Below w.heap.size w w' := by
  have HZ := Lib.hid hz
  have HA := Lib.hid hA
  clear hz hA
  go_enter Try.func82, Try.ntmps82
  by_cases hn1 : n < 1
  · go_wp2_with fail
    go_ret
    exact ⟨ret1 (M.best_none hn1).symm, Below.refl _ _⟩
  go_wp2_with fail
  have x0 := Box.new w 34 0 0
  have b0 := (Below.refl w.heap.size w).alloc (Nat.le_refl _) (.cells #[.int .i64 0, .int .i64 0] 34)
  obtain ⟨g, hg⟩ : ∃ g, g = w.heap.size := ⟨_, rfl⟩
  rw [← hg]
  have HG := Lib.hid hg
  have X0 := Lib.hid x0
  have B0 := Lib.hid b0
  clear x0 b0 hg
  go_loopw [5, 14] (fun b i wr => ∃ (k : Nat) (bb p m : Int), k ≤ z ∧ i = .int .i64 (k : Int) ∧ b = .int .i64 bb ∧ Box wr g p m ∧ Upto l n k bb p m ∧ Below w.heap.size w wr) (fun b i _ => z - (intOf i).toNat)
  case atStart => exact ⟨0, -1, 0, 0, by omega, rfl, rfl, by rw [HG.out]; exact X0.out, ⟨.inl ⟨rfl, .inr (fun r h => by simp at h)⟩, .inl ⟨rfl, rfl, rfl⟩⟩, B0.out⟩
  case round =>
    obtain ⟨k, bb, p, m, hk, rfl, rfl, hx, hu, hb⟩ := hrel
    have HB := Lib.hid hb
    have BX := Lib.hid hx
    have HU := Lib.hid hu
    have a0 := hx.c0
    have a1 := hx.c1
    clear hb hu hx
    by_cases hlt : k < z
    · have hkl : k < l.length := by have := HZ.out; omega
      obtain ⟨bl, o, rfl, hc⟩ := HA.out (by omega)
      have c0 := (hc k hkl).1
      have c1 := (hc k hkl).2
      have skip := HU.out.skip hkl
      have tak := HU.out.take hkl hn1
      obtain ⟨x, hx⟩ : ∃ x, x = l[k] := ⟨_, rfl⟩
      rw [← hx] at c0 c1 skip tak
      obtain ⟨p', m'⟩ := x
      simp only at c0 c1 skip tak
      have d0 := (HB.out.cell (lt_of_cell c0)).trans c0
      have d1 := (HB.out.cell (lt_of_cell c1)).trans c1
      have SKIP := Lib.hid skip
      have TAK := Lib.hid tak
      have BN := Lib.hid (show Below w.heap.size w (wr.alloc (.cells #[.int .i64 p', .int .i64 m'] 34)) from HB.out.alloc HB.out.size _)
      have hgw : w.heap.size ≤ g := by rw [HG.out]; exact Nat.le_refl _
      have HGW := Lib.hid hgw
      have a2 := (BX.out.alloc (.cells #[.int .i64 p', .int .i64 m'] 34)).c0
      have a3 := (BX.out.alloc (.cells #[.int .i64 p', .int .i64 m'] 34)).c1
      clear hx hc c0 c1 hk skip tak hgw
      by_cases t1 : m' < n
      · have t1' : decide (n ≤ m') = false := by simp; omega
        go_wp2_with fail
        go_roundw
        case rel => exact ⟨k + 1, bb, p, m, by omega, by go_num, rfl, BX.out.alloc _, SKIP.out (.inl (by omega)), BN.out⟩
        case measure => simp [intOf]; omega
      · rcases HU.out.2 with ⟨rfl, rfl, rfl⟩ | ⟨j, hj, hjk, hbb, hpp, hmm⟩
        · go_wp2_with (go_at_call 89; refine (some_any _ 0 0 false rfl).mono ?_; rintro e w5 ⟨rfl, hb5⟩; (have x5 := (Box.new wr 34 p' m').below hb5); (have g5 := (BX.out.alloc (.cells #[.int .i64 p', .int .i64 m'] 34)).below hb5); (have q0 := x5.c0); (have q1 := x5.c1); (have r0 := g5.c0); (have r1 := g5.c1); (have r2 := g5.f0); (have r3 := g5.f1); (have B5 := Lib.hid (below_call (HB.out.alloc HB.out.size _) (hb5.mono (by simp)))); (have G5 := Lib.hid g5); clear hb5 x5 g5)
          go_region_with fail
          go_wp2_with fail
          go_roundw
          case rel => exact ⟨k + 1, k, p', m', by omega, by go_num, by go_num, (G5.out.set p' m').drew, TAK.out (by omega) (by simp), (below_set B5.out HGW.out _ _).drew⟩
          case measure => simp [intOf]; omega
        · have hm1 : 1 ≤ m := by
            rcases HU.out.1 with ⟨h, _⟩ | ⟨j', hj', e, h1, h2, _⟩
            · omega
            · have e : j = j' := by omega
              subst e
              rw [List.getElem_take, ← hmm] at h2
              omega
          have HM := Lib.hid (show bb ≠ -1 from by omega)
          clear hj hjk hbb hpp hmm
          by_cases t2 : m' < m
          · go_wp2_with (go_at_call 89; refine (some_any _ p m true (by simp; omega)).mono ?_; rintro e w5 ⟨rfl, hb5⟩; (have x5 := (Box.new wr 34 p' m').below hb5); (have g5 := (BX.out.alloc (.cells #[.int .i64 p', .int .i64 m'] 34)).below hb5); (have q0 := x5.c0); (have q1 := x5.c1); (have r0 := g5.c0); (have r1 := g5.c1); (have r2 := g5.f0); (have r3 := g5.f1); (have B5 := Lib.hid (below_call (HB.out.alloc HB.out.size _) (hb5.mono (by simp)))); (have G5 := Lib.hid g5); clear hb5 x5 g5)
            go_region_with fail
            go_wp2_with fail
            go_roundw
            case rel => exact ⟨k + 1, k, p', m', by omega, by go_num, by go_num, (G5.out.set p' m').drew, TAK.out (by omega) (.inr t2), (below_set B5.out HGW.out _ _).drew⟩
            case measure => simp [intOf]; omega
          · go_wp2_with (go_at_call 89; refine (some_any _ p m true (by simp; omega)).mono ?_; rintro e w5 ⟨rfl, hb5⟩; (have x5 := (Box.new wr 34 p' m').below hb5); (have g5 := (BX.out.alloc (.cells #[.int .i64 p', .int .i64 m'] 34)).below hb5); (have q0 := x5.c0); (have q1 := x5.c1); (have r0 := g5.c0); (have r1 := g5.c1); (have r2 := g5.f0); (have r3 := g5.f1); (have B5 := Lib.hid (below_call (HB.out.alloc HB.out.size _) (hb5.mono (by simp)))); (have G5 := Lib.hid g5); clear hb5 x5 g5)
            go_roundw
            case rel => exact ⟨k + 1, bb, p, m, by omega, by go_num, rfl, G5.out, SKIP.out (.inr ⟨HM.out, by omega⟩), B5.out⟩
            case measure => simp [intOf]; omega
    · go_wp2_with fail
      go_ret
      have e : l.take k = l := List.take_of_length_le (by have := HZ.out; omega)
      have hu := HU.out.1
      rw [e] at hu
      exact ⟨ret1 (M.best_eq hu), HB.out⟩

/-! Right. -/
theorem M.Ok.adj {N : Int} : ∀ {l : List M.R} {a : Int}, M.Ok a N l → ∀ j (h : j + 1 < l.length), l[j].p + l[j].n < l[j + 1].p := by
  intro l
  induction l with
  | nil => intro a _ j h; simp at h
  | cons r l ih =>
    intro a hok j h
    cases j with
    | zero =>
      have := hok.2.2.2.2.mem (l[0]'(by simpa using h)) (List.getElem_mem _)
      simp only [List.getElem_cons_zero, List.getElem_cons_succ]
      exact this.1
    | succ j => exact ih hok.2.2.2.2 j (by simpa using h)
/-- The first k runs may be. -/
def Pre (l : List M.R) (N : Int) (k : Nat) : Prop := (∀ j (hj : j < l.length), j < k → rfitsB l[j].p l[j].n N = true) ∧ ∀ j (hj : j + 1 < l.length), j + 1 < k → l[j].p + l[j].n < l[j + 1].p
theorem Pre.zero (l : List M.R) (N : Int) : Pre l N 0 := ⟨fun j _ h => by omega, fun j _ h => by omega⟩
theorem Pre.one {l : List M.R} {N : Int} (hk : 0 < l.length) (h1 : rfitsB l[0].p l[0].n N = true) : Pre l N 1 :=
  ⟨fun j hj h => by obtain rfl : j = 0 := by omega
                    exact h1, fun j _ h => by omega⟩
theorem Pre.next {l : List M.R} {N : Int} {k : Nat} (h : Pre l N (k + 1)) (hk : k + 1 < l.length) (h1 : rfitsB l[k + 1].p l[k + 1].n N = true) (h2 : l[k].p + l[k].n < l[k + 1].p) : Pre l N (k + 1 + 1) :=
  ⟨fun j hj hjk => by
    rcases Nat.lt_or_ge j (k + 1) with h3 | h3
    · exact h.1 j hj h3
    · obtain rfl : j = k + 1 := by omega
      exact h1, fun j hj hjk => by
    rcases Nat.lt_or_ge (j + 1) (k + 1) with h3 | h3
    · exact h.2 j hj h3
    · obtain rfl : j = k := by omega
      exact h2⟩
theorem okB_bad1 {l : List M.R} {N : Int} (k : Nat) (hk : k < l.length) (h : rfitsB l[k].p l[k].n N = false) : M.okB (-1) N l = false := by
  rw [← Bool.not_eq_true, M.okB_iff]
  intro hok
  rw [(rfitsB_iff _ _ _).2 (hok.mem _ (List.getElem_mem hk)).2] at h
  cases h
theorem okB_bad2 {l : List M.R} {N : Int} (k : Nat) (hk : k + 1 < l.length) (h : l[k + 1].p ≤ l[k].p + l[k].n) : M.okB (-1) N l = false := by
  rw [← Bool.not_eq_true, M.okB_iff]
  intro hok
  have := hok.adj k hk
  omega
theorem okB_good (N : Int) : ∀ (l : List M.R) (a : Int), (∀ h : 0 < l.length, a < l[0].p) → Pre l N l.length → M.okB a N l = true := by
  intro l
  induction l with
  | nil => intro a _ _; rfl
  | cons r l ih =>
    intro a h0 h1
    rw [M.okB_iff]
    have hr := (rfitsB_iff _ _ _).1 (h1.1 0 (by simp) (by simp))
    simp only [List.getElem_cons_zero] at hr
    refine ⟨h0 (by simp), hr.1, hr.2.1, hr.2.2, ?_⟩
    rw [← M.okB_iff]
    refine ih _ (fun h => ?_) ⟨fun j hj _ => ?_, fun j hj _ => ?_⟩
    · exact h1.2 0 (by simpa using h) (by simpa using h)
    · exact h1.1 (j + 1) (by simpa using hj) (by simpa using hj)
    · exact h1.2 (j + 1) (by simpa using hj) (by simpa using hj)

end Go.Proofs.Ytmagdhcpbofkbaa
/-
  The program's Right.
-/
namespace Go.Proofs.Ytmagdhcpbofkbaa
open Go.ChangeShapes Go.WideShapes Go.ChangeAt Go.RowKit Go.Deep
set_option linter.unusedVariables false
set_option maxRecDepth 20000

end Go.Proofs.Ytmagdhcpbofkbaa
/-
  The document's Right and Same.
-/
namespace Go.Proofs.Ytmagdhcpbofkbaa
open Go.ChangeShapes Go.WideShapes Go.ChangeAt Go.RowKit Go.Deep
set_option linter.unusedVariables false
set_option maxRecDepth 20000

theorem take_split (l : List M.R) (k : Nat) (h : k < l.length) : l = l.take k ++ (l[k] :: l.drop (k + 1)) := by rw [List.getElem_cons_drop, List.take_append_drop]
theorem ok_fail {N : Int} {l : List M.R} (k : Nat) (hk : k < l.length) (h : ¬ (M.endOf (-1) (l.take k) < l[k].p ∧ 0 ≤ l[k].p ∧ 1 ≤ l[k].n ∧ l[k].p + l[k].n ≤ N)) : M.okB (-1) N l = false := by
  rw [← Bool.not_eq_true, M.okB_iff]
  intro hok
  rw [take_split l k hk, M.Ok_append] at hok
  exact h ⟨hok.2.1, hok.2.2.1, hok.2.2.2.1, hok.2.2.2.2.1⟩
theorem ok_step {N : Int} {l : List M.R} (k : Nat) (hk : k < l.length) (h : M.Ok (-1) N (l.take k)) (h1 : M.endOf (-1) (l.take k) < l[k].p) (h2 : 0 ≤ l[k].p) (h3 : 1 ≤ l[k].n) (h4 : l[k].p + l[k].n ≤ N) :
    M.Ok (-1) N (l.take (k + 1)) ∧ M.endOf (-1) (l.take (k + 1)) = l[k].p + l[k].n := by
  rw [List.take_succ_eq_append_getElem hk]
  exact ⟨(M.Ok_append _ _ _).2 ⟨h, h1, h2, h3, h4, trivial⟩, by rw [M.endOf_append]; rfl⟩

theorem same_no {l m : List M.R} (k : Nat) (hk : k < l.length) (hm : k < m.length) (h : ¬ (l[k].p = m[k].p ∧ l[k].n = m[k].n)) : decide (l = m) = false := by
  simp only [decide_eq_false_iff_not]
  rintro rfl
  exact h ⟨rfl, rfl⟩
theorem same_yes {l m : List M.R} (h : l.length = m.length) (hall : ∀ k (hk : k < l.length) (hm : k < m.length), l[k] = m[k]) : decide (l = m) = true := by
  simp only [decide_eq_true_eq]
  exact List.ext_getElem h hall

set_option maxHeartbeats 4000000 in
theorem same_any (w : World) (A A' : Option Addr) (l m : List M.R) (z c z' c' : Nat) (hz : z = l.length) (hz' : z' = m.length) (hA : Runs w A l) (hA' : Runs w A' m) (hl : z ≤ 9223372036854775807) :
    Calls Try.prog 12 #[.slice A z c, .slice A' z' c'] w fun e w' => e = .returned (.bool (decide (l = m))) ∧ Below w.heap.size w w' := by
  have HZ := Lib.hid hz
  have HZ' := Lib.hid hz'
  have HA := Lib.hid hA
  have HA' := Lib.hid hA'
  clear hz hA hz' hA'
  go_enter Try.func12, Try.ntmps12
  by_cases hzz : z = z'
  · have HE := Lib.hid (show l.length = m.length by rw [← HZ.out, ← HZ'.out]; exact hzz)
    subst hzz
    go_wp2_with fail
    go_loopw [5] (fun i wr => ∃ (k : Nat), k ≤ z ∧ i = .int .i64 (k : Int) ∧ (∀ j (hk : j < l.length) (hm : j < m.length), j < k → l[j] = m[j]) ∧ Below w.heap.size w wr) (fun i _ => z - (intOf i).toNat)
    case atStart => exact ⟨0, by omega, rfl, fun j _ _ h => by omega, Below.refl _ _⟩
    case round =>
      obtain ⟨k, hk, rfl, hg, hb⟩ := hrel
      have HB := Lib.hid hb
      have HG := Lib.hid hg
      clear hb hg
      by_cases hlt : k < z
      · have hkl : k < l.length := by have := HZ.out; omega
        have hkm : k < m.length := by have := HE.out; omega
        obtain ⟨bl, o, rfl, hc⟩ := HA.out (by omega)
        obtain ⟨bl', o', rfl, hc'⟩ := HA'.out (by omega)
        have c0 := (HB.out.cell (lt_of_cell (hc k hkl).1)).trans (hc k hkl).1
        have c1 := (HB.out.cell (lt_of_cell (hc k hkl).2)).trans (hc k hkl).2
        have d0 := (HB.out.cell (lt_of_cell (hc' k hkm).1)).trans (hc' k hkm).1
        have d1 := (HB.out.cell (lt_of_cell (hc' k hkm).2)).trans (hc' k hkm).2
        have bad := same_no (l := l) (m := m) k hkl hkm
        have nxt : l[k].p = m[k].p → l[k].n = m[k].n → ∀ j (hk : j < l.length) (hm : j < m.length), j < k + 1 → l[j] = m[j] := fun h1 h2 j hj hj' hjk => by
          rcases Nat.lt_or_ge j k with h3 | h3
          · exact HG.out j hj hj' h3
          · obtain rfl : j = k := by omega
            revert h1 h2
            cases l[j]; cases m[j]
            intro h1 h2
            simp only at h1 h2
            rw [h1, h2]
        obtain ⟨p, hp⟩ : ∃ p, p = l[k].p := ⟨_, rfl⟩
        obtain ⟨q, hq⟩ : ∃ q, q = l[k].n := ⟨_, rfl⟩
        obtain ⟨p', hp'⟩ : ∃ p', p' = m[k].p := ⟨_, rfl⟩
        obtain ⟨q', hq'⟩ : ∃ q', q' = m[k].n := ⟨_, rfl⟩
        rw [← hp] at c0 bad nxt
        rw [← hq] at c1 bad nxt
        rw [← hp'] at d0 bad nxt
        rw [← hq'] at d1 bad nxt
        have BAD := Lib.hid bad
        have NXT := Lib.hid nxt
        clear hc hc' hk hp hq hp' hq' bad nxt hkl hkm
        by_cases t1 : p = p'
        · by_cases t2 : q = q'
          · subst t1 t2
            go_wp2_with fail
            go_quiet (fail)
            go_wp2_with fail
            go_roundw
            case rel => exact ⟨k + 1, by omega, by go_num, (by have h := NXT.out; exact h trivial trivial), below_drewN' HB.out _⟩
            case measure => simp [intOf]; omega
          · go_wp2_with fail
            go_quiet (fail)
            go_wp2_with fail
            go_ret
            exact ⟨retB (BAD.out (fun h => t2 h.2)).symm, below_drewN' HB.out _⟩
        · go_wp2_with fail
          go_quiet (fail)
          go_wp2_with fail
          go_ret
          exact ⟨retB (BAD.out (fun h => t1 h.1)).symm, below_drewN' HB.out _⟩
      · go_wp2_with fail
        go_ret
        exact ⟨retB (same_yes HE.out (fun j h1 h2 => HG.out j h1 h2 (by have := HZ.out; omega))).symm, HB.out⟩
  · have hne : ¬ ((z : Int) = (z' : Int)) := by omega
    have HE := Lib.hid (show decide (l = m) = false by
      simp only [decide_eq_false_iff_not]
      rintro rfl
      exact hzz (by rw [HZ.out, HZ'.out]))
    go_wp2_with fail
    go_ret
    exact ⟨retB HE.out.symm, Below.refl _ _⟩
end Go.Proofs.Ytmagdhcpbofkbaa
/-
  Pages that are taken and given back, in memory: what an Alloc's block holds; become.
-/
namespace Go.Proofs.Ytmagdhcpbofkbaa
open Go.ChangeShapes Go.WideShapes Go.ChangeAt Go.RowKit Go.Deep
set_option linter.unusedVariables false
set_option maxRecDepth 20000

/-- The cells of an Alloc. -/
structure Al (w : World) (g : Nat) (P : Int) (A : Option Addr) (z c : Nat) (T : Int) : Prop where
  c0 : w.cell? ⟨g, 0, none⟩ = some (.int .i64 P)
  c1 : w.cell? ⟨g, 1, none⟩ = some (.slice A z c)
  c2 : w.cell? ⟨g, 2, none⟩ = some (.int .i64 T)
  c3 : ∀ j, 3 ≤ j → w.cell? ⟨g, j, none⟩ = none
  f1 : w.frozen? ⟨g, 1, none⟩ = false
  f2 : w.frozen? ⟨g, 2, none⟩ = false
section
variable {w w' : World} {g : Nat} {P T : Int} {A : Option Addr} {z c : Nat}
theorem Al.lt (h : Al w g P A z c T) : g < w.heap.size := lt_of_cell h.c0
theorem Al.keep (h : Al w g P A z c T) (hb : w'.heap[g]? = w.heap[g]?) : Al w' g P A z c T :=
  ⟨(World.cell?_of_block (w := w) (a := ⟨g, 0, none⟩) hb).trans h.c0, (World.cell?_of_block (w := w) (a := ⟨g, 1, none⟩) hb).trans h.c1, (World.cell?_of_block (w := w) (a := ⟨g, 2, none⟩) hb).trans h.c2,
    fun j hj => (World.cell?_of_block (w := w) (a := ⟨g, j, none⟩) hb).trans (h.c3 j hj), (World.frozen?_of_block (w := w) (a := ⟨g, 1, none⟩) hb).trans h.f1, (World.frozen?_of_block (w := w) (a := ⟨g, 2, none⟩) hb).trans h.f2⟩
theorem Al.below (h : Al w g P A z c T) (hb : Below w.heap.size w w') : Al w' g P A z c T := h.keep (hb.block g h.lt)
theorem Al.alloc (h : Al w g P A z c T) (o : Obj) : Al (w.alloc o) g P A z c T := h.keep (Below.heap_alloc w o g h.lt)
theorem Al.drew (h : Al w g P A z c T) : Al w.drew g P A z c T := ⟨h.c0, h.c1, h.c2, h.c3, h.f1, h.f2⟩
theorem Al.new (w : World) (P : Int) (A : Option Addr) (z c : Nat) (T : Int) : Al (w.alloc (.cells #[.int .i64 P, .slice A z c, .int .i64 T] 75)) w.heap.size P A z c T :=
  ⟨by rw [World.cell?_alloc_mark]; rfl, by rw [World.cell?_alloc_mark]; rfl, by rw [World.cell?_alloc_mark]; rfl, fun j hj => by rw [World.cell?_alloc_mark]; simp; omega, by rw [World.frozen?_alloc_mark]; simp, by rw [World.frozen?_alloc_mark]; simp⟩
theorem Al.tick (h : Al w g P A z c T) (T' : Int) : Al (w.setCell ⟨g, 2, none⟩ (.int .i64 T')) g P A z c T' := by
  refine ⟨?_, ?_, World.cell?_setCell_same _ _ _ h.c2, fun j hj => ?_, ?_, ?_⟩
  · rw [World.cell?_setCell_other _ _ _ _ (by simp)]; exact h.c0
  · rw [World.cell?_setCell_other _ _ _ _ (by simp)]; exact h.c1
  · rw [World.cell?_setCell_other _ _ _ _ (by simp; try omega)]; exact h.c3 j hj
  · rw [World.frozen?_setCell]; exact h.f1
  · rw [World.frozen?_setCell]; exact h.f2
theorem Al.turn (h : Al w g P A z c T) (A' : Option Addr) (z' c' : Nat) : Al (w.setCell ⟨g, 1, none⟩ (.slice A' z' c')) g P A' z' c' T := by
  refine ⟨?_, World.cell?_setCell_same _ _ _ h.c1, ?_, fun j hj => ?_, ?_, ?_⟩
  · rw [World.cell?_setCell_other _ _ _ _ (by simp)]; exact h.c0
  · rw [World.cell?_setCell_other _ _ _ _ (by simp)]; exact h.c2
  · rw [World.cell?_setCell_other _ _ _ _ (by simp; try omega)]; exact h.c3 j hj
  · rw [World.frozen?_setCell]; exact h.f1
  · rw [World.frozen?_setCell]; exact h.f2
/-- No run lies in the Alloc's block. -/
theorem Al.apart (h : Al w g P A z c T) {A' : Option Addr} {l' : List M.R} (hr : Runs w A' l') (hl : 0 < l'.length) : ∃ bl o, A' = some ⟨bl, o, none⟩ ∧ bl ≠ g ∧ ∀ i (hi : i < l'.length), w.cell? ⟨bl, o + i * 2, none⟩ = some (.int .i64 l'[i].p) ∧ w.cell? ⟨bl, o + i * 2 + 1, none⟩ = some (.int .i64 l'[i].n) := by
  obtain ⟨bl, o, rfl, hc⟩ := hr hl
  refine ⟨bl, o, rfl, fun e => ?_, hc⟩
  subst e
  obtain ⟨h0, h1⟩ := hc 0 hl
  simp only [Nat.zero_mul, Nat.add_zero] at h0 h1
  rcases Nat.lt_or_ge o 3 with ho | ho
  · have : o = 0 ∨ o = 1 ∨ o = 2 := by omega
    rcases this with rfl | rfl | rfl
    · rw [h.c1] at h1; cases h1
    · rw [h.c1] at h0; cases h0
    · rw [h.c3 3 (by omega)] at h1; cases h1
  · rw [h.c3 o ho] at h0; cases h0
theorem Al.runs (h : Al w g P A z c T) {A' : Option Addr} {l' : List M.R} (hr : Runs w A' l') (hb : w.grownBy w' (some g)) : Runs w' A' l' := fun hl => by
  obtain ⟨bl, o, rfl, hne, hc⟩ := h.apart hr hl
  have k : ∀ j, bl < w.heap.size → w'.cell? ⟨bl, j, none⟩ = w.cell? ⟨bl, j, none⟩ := fun j hj => World.cell?_of_block (w := w) (a := ⟨bl, j, none⟩) (hb.block bl hj (fun e => hne (by injection e)))
  exact ⟨bl, o, rfl, fun i hi => ⟨(k _ (lt_of_cell (hc i hi).1)).trans (hc i hi).1, (k _ (lt_of_cell (hc i hi).2)).trans (hc i hi).2⟩⟩
end
theorem grown_of {w w' : World} (h : Below w.heap.size w w') (g : Nat) : w.grownBy w' (some g) := ⟨h.os, h.tape, h.output, h.size, fun i hi _ => h.block i hi⟩
theorem grown_go {a b c : World} {g : Nat} (h : a.grownBy b (some g)) (k : b.grownBy c (some g)) : a.grownBy c (some g) :=
  ⟨k.os.trans h.os, k.tape.trans h.tape, k.output.trans h.output, Nat.le_trans h.size k.size, fun i hi hne => (k.block i (Nat.lt_of_lt_of_le hi h.size) hne).trans (h.block i hi hne)⟩
/-- An Alloc: how many pages there are, which runs are free, what ticked. -/
def Has (w : World) (g : Nat) (P : Int) (l : List M.R) (T : Int) : Prop := ∃ A z c, Al w g P A z c T ∧ z = l.length ∧ Runs w A l
section
variable {w w' : World} {g : Nat} {P T : Int} {l : List M.R}
theorem Has.below (h : Has w g P l T) (hb : Below w.heap.size w w') : Has w' g P l T := by
  obtain ⟨A, z, c, h, hz, hr⟩ := h
  exact ⟨A, z, c, h.below hb, hz, hr.below hb⟩
theorem Has.lt (h : Has w g P l T) : g < w.heap.size := by
  obtain ⟨A, z, c, h, hz, hr⟩ := h
  exact h.lt
theorem Has.runs (h : Has w g P l T) {A' : Option Addr} {l' : List M.R} (hr : Runs w A' l') (hb : w.grownBy w' (some g)) : Runs w' A' l' := by
  obtain ⟨A, z, c, h, _, _⟩ := h
  exact h.runs hr hb
end

set_option maxHeartbeats 2000000 in
theorem become_any (w : World) (g : Nat) (P : Int) (A : Option Addr) (z c : Nat) (T : Int) (h : Al w g P A z c T) (hz : z ≤ 4000000000) (hT0 : 0 ≤ T) (hT : T ≤ 1000000000000) (A' : Option Addr) (z' c' : Nat) :
    Calls Try.prog 58 #[.pointer (some ⟨g, 0, none⟩), .slice A' z' c'] w fun e w' => e = .returned (.tuple #[]) ∧ Al w' g P A' z' c' (T + 1 + z) ∧ w.grownBy w' (some g) := by
  have HA := Lib.hid h
  have d1 : w.drew.cell? ⟨g, 1, none⟩ = some (.slice A z c) := h.c1
  have d2 : w.drew.cell? ⟨g, 2, none⟩ = some (.int .i64 T) := h.c2
  have e1 := h.f1
  have e2 := h.f2
  have s1 : IntKind.i64.wrap (1 + (z : Int)) = 1 + (z : Int) := by rw [IntKind.wrap_i64]; omega
  have s2 : IntKind.i64.wrap (T + (1 + (z : Int))) = T + 1 + z := by rw [IntKind.wrap_i64]; omega
  have hn := h.tick (T + 1 + z)
  have g1 : (w.drew.setCell ⟨g, 2, none⟩ (.int .i64 (T + 1 + z))).cell? ⟨g, 1, none⟩ = some (.slice A z c) := hn.c1
  have g2 : (w.drew.setCell ⟨g, 2, none⟩ (.int .i64 (T + 1 + z))).frozen? ⟨g, 1, none⟩ = false := hn.f1
  have HN := Lib.hid hn
  clear h hn hz hT hT0
  go_enter Try.func58, Try.ntmps58
  go_wp2_with fail
  refine wp_region_noPanic ?_
  refine wp_region_held_drew (S := fun W => W.cell? ⟨g, 1, none⟩ = some (.slice A z c)) (by kernel_rfl) (d1) (fun hHeld => ?_)
  refine wpAnyH_take (i := 0) (oi := ({ dst := some 4, op := Op.move (Operand.tmp 0), type := 55, pos := "pagerun.go:53", after := #[], guard := none } : Oper)) (v := ?_) rfl (by kernel_rfl) (by kernel_rfl) (by kernel_rfl) (fun _ _ _ h => h) (Or.inl ⟨by rfl, ?_⟩) (by assumption) ?_
  rotate_left
  · (intro w hSw; (try dsimp only at hSw); go_simp) <;> with_reducible rfl
  (try simp only [Act.put, List.setIfInBounds_toArray, List.set_cons_zero, List.set_cons_succ])
  refine wpAnyH_take (i := 1) (oi := ({ dst := some 5, op := Op.nilCheck (Operand.tmp 4), type := 0, pos := "pagerun.go:53", after := #[{ on := 0, ground := Ground.data }], guard := none } : Oper)) (v := ?_) rfl (by kernel_rfl) (by kernel_rfl) (by kernel_rfl) (fun _ _ _ h => h) (Or.inl ⟨by rfl, ?_⟩) (by assumption) ?_
  rotate_left
  · (intro w hSw; (try dsimp only at hSw); go_simp) <;> with_reducible rfl
  (try simp only [Act.put, List.setIfInBounds_toArray, List.set_cons_zero, List.set_cons_succ])
  refine wpAnyH_take (i := 2) (oi := ({ dst := some 6, op := Op.fieldAddr 75 (Operand.tmp 5) 2, type := 0, pos := "pagerun.go:53", after := #[{ on := 1, ground := Ground.data }], guard := none } : Oper)) (v := ?_) rfl (by kernel_rfl) (by kernel_rfl) (by kernel_rfl) (fun _ _ _ h => h) (Or.inl ⟨by rfl, ?_⟩) (by assumption) ?_
  rotate_left
  · (intro w hSw; (try dsimp only at hSw); go_simp) <;> with_reducible rfl
  (try simp only [Act.put, List.setIfInBounds_toArray, List.set_cons_zero, List.set_cons_succ])
  refine wpAnyH_take (i := 4) (oi := ({ dst := some 8, op := Op.move (Operand.tmp 0), type := 55, pos := "pagerun.go:53", after := #[], guard := none } : Oper)) (v := ?_) rfl (by kernel_rfl) (by kernel_rfl) (by kernel_rfl) (fun _ _ _ h => h) (Or.inl ⟨by rfl, ?_⟩) (by assumption) ?_
  rotate_left
  · (intro w hSw; (try dsimp only at hSw); go_simp) <;> with_reducible rfl
  (try simp only [Act.put, List.setIfInBounds_toArray, List.set_cons_zero, List.set_cons_succ])
  refine wpAnyH_take (i := 5) (oi := ({ dst := some 9, op := Op.nilCheck (Operand.tmp 8), type := 0, pos := "pagerun.go:53", after := #[{ on := 4, ground := Ground.data }], guard := none } : Oper)) (v := ?_) rfl (by kernel_rfl) (by kernel_rfl) (by kernel_rfl) (fun _ _ _ h => h) (Or.inl ⟨by rfl, ?_⟩) (by assumption) ?_
  rotate_left
  · (intro w hSw; (try dsimp only at hSw); go_simp) <;> with_reducible rfl
  (try simp only [Act.put, List.setIfInBounds_toArray, List.set_cons_zero, List.set_cons_succ])
  refine wpAnyH_take (i := 6) (oi := ({ dst := some 10, op := Op.fieldAddr 75 (Operand.tmp 9) 1, type := 0, pos := "pagerun.go:53", after := #[{ on := 5, ground := Ground.data }], guard := none } : Oper)) (v := ?_) rfl (by kernel_rfl) (by kernel_rfl) (by kernel_rfl) (fun _ _ _ h => h) (Or.inl ⟨by rfl, ?_⟩) (by assumption) ?_
  rotate_left
  · (intro w hSw; (try dsimp only at hSw); go_simp) <;> with_reducible rfl
  (try simp only [Act.put, List.setIfInBounds_toArray, List.set_cons_zero, List.set_cons_succ])
  refine wpAnyH_take (i := 7) (oi := ({ dst := some 11, op := Op.load 29 (Operand.tmp 10), type := 29, pos := "pagerun.go:53", after := #[{ on := 6, ground := Ground.data }], guard := none } : Oper)) (v := ?_) rfl (by kernel_rfl) (by kernel_rfl) (by kernel_rfl) (fun _ _ _ h => h) (Or.inl ⟨by rfl, ?_⟩) (by assumption) ?_
  rotate_left
  · (intro w hSw; (try dsimp only at hSw); go_simp) <;> with_reducible rfl
  (try simp only [Act.put, List.setIfInBounds_toArray, List.set_cons_zero, List.set_cons_succ])
  refine wpAnyH_take (i := 8) (oi := ({ dst := some 12, op := Op.call { callee := Callee.builtin Builtin.len, args := #[Operand.tmp 11], argTypes := #[29] }, type := 3, pos := "pagerun.go:53", after := #[{ on := 7, ground := Ground.data }], guard := none } : Oper)) (v := ?_) rfl (by kernel_rfl) (by kernel_rfl) (by kernel_rfl) (fun _ _ _ h => h) (Or.inl ⟨by rfl, ?_⟩) (by assumption) ?_
  rotate_left
  · (intro w hSw; (try dsimp only at hSw); go_simp) <;> with_reducible rfl
  (try simp only [Act.put, List.setIfInBounds_toArray, List.set_cons_zero, List.set_cons_succ])
  refine wpAnyH_take (i := 9) (oi := ({ dst := some 13, op := Op.binOp BinOp.add 3 (Operand.const (Value.int IntKind.i64 1)) (Operand.tmp 12) 3, type := 3, pos := "pagerun.go:53", after := #[{ on := 8, ground := Ground.data }], guard := none } : Oper)) (v := ?_) rfl (by kernel_rfl) (by kernel_rfl) (by kernel_rfl) (fun _ _ _ h => h) (Or.inl ⟨by rfl, ?_⟩) (by assumption) ?_
  rotate_left
  · (intro w hSw; (try dsimp only at hSw); go_simp) <;> with_reducible rfl
  (try simp only [Act.put, List.setIfInBounds_toArray, List.set_cons_zero, List.set_cons_succ])
  refine wpAnyH_ready (rs := [3]) (by kernel_rfl) (by simp) ?_
  refine AllReadyH.cons (o := ({ dst := some 7, op := Op.load 3 (Operand.tmp 6), type := 3, pos := "pagerun.go:53", after := #[{ on := 2, ground := Ground.data }], guard := none } : Oper)) rfl (fun K hK => ?_) ?_
  · go_simp
    refine hK.out _ _ ?_ (fun hHeld => ?_)
    · exact d1
    clear hK K
    (try simp only [Act.put, List.setIfInBounds_toArray, List.set_cons_zero, List.set_cons_succ])
    refine wpAnyH_take (i := 10) (oi := ({ dst := some 14, op := Op.binOp BinOp.add 3 (Operand.tmp 7) (Operand.tmp 13) 3, type := 3, pos := "pagerun.go:53", after := #[{ on := 3, ground := Ground.data }, { on := 9, ground := Ground.data }], guard := none } : Oper)) (v := ?_) rfl (by kernel_rfl) (by kernel_rfl) (by kernel_rfl) (fun _ _ _ h => h) (Or.inl ⟨by rfl, ?_⟩) (by assumption) ?_
    rotate_left
    · (intro w hSw; (try dsimp only at hSw); go_simp) <;> with_reducible rfl
    (try simp only [Act.put, List.setIfInBounds_toArray, List.set_cons_zero, List.set_cons_succ])
    refine wpAnyH_take (i := 11) (oi := ({ dst := some 15, op := Op.nilCheck (Operand.tmp 4), type := 0, pos := "pagerun.go:53", after := #[{ on := 0, ground := Ground.data }, { on := 0, ground := Ground.phase }, { on := 1, ground := Ground.phase }, { on := 2, ground := Ground.phase }, { on := 3, ground := Ground.phase }, { on := 4, ground := Ground.phase }, { on := 5, ground := Ground.phase }, { on := 6, ground := Ground.phase }, { on := 7, ground := Ground.phase }, { on := 8, ground := Ground.phase }, { on := 9, ground := Ground.phase }, { on := 10, ground := Ground.phase }], guard := none } : Oper)) (v := ?_) rfl (by kernel_rfl) (by kernel_rfl) (by kernel_rfl) (fun _ _ _ h => h) (Or.inl ⟨by rfl, ?_⟩) (by assumption) ?_
    rotate_left
    · (intro w hSw; (try dsimp only at hSw); go_simp) <;> with_reducible rfl
    (try simp only [Act.put, List.setIfInBounds_toArray, List.set_cons_zero, List.set_cons_succ])
    refine wpAnyH_take (i := 12) (oi := ({ dst := some 16, op := Op.fieldAddr 75 (Operand.tmp 15) 2, type := 0, pos := "pagerun.go:53", after := #[{ on := 11, ground := Ground.data }, { on := 0, ground := Ground.phase }, { on := 1, ground := Ground.phase }, { on := 2, ground := Ground.phase }, { on := 3, ground := Ground.phase }, { on := 4, ground := Ground.phase }, { on := 5, ground := Ground.phase }, { on := 6, ground := Ground.phase }, { on := 7, ground := Ground.phase }, { on := 8, ground := Ground.phase }, { on := 9, ground := Ground.phase }, { on := 10, ground := Ground.phase }], guard := none } : Oper)) (v := ?_) rfl (by kernel_rfl) (by kernel_rfl) (by kernel_rfl) (fun _ _ _ h => h) (Or.inl ⟨by rfl, ?_⟩) (by assumption) ?_
    rotate_left
    · (intro w hSw; (try dsimp only at hSw); go_simp) <;> with_reducible rfl
    (try simp only [Act.put, List.setIfInBounds_toArray, List.set_cons_zero, List.set_cons_succ])
    refine wpAnyH_ready (rs := [13]) (by kernel_rfl) (by simp) ?_
    refine AllReadyH.cons (o := ({ dst := none, op := Op.store 3 (Operand.tmp 16) (Operand.tmp 14), type := 0, pos := "pagerun.go:53", after := #[{ on := 12, ground := Ground.data }, { on := 10, ground := Ground.data }, { on := 0, ground := Ground.phase }, { on := 1, ground := Ground.phase }, { on := 2, ground := Ground.phase }, { on := 3, ground := Ground.phase }, { on := 4, ground := Ground.phase }, { on := 5, ground := Ground.phase }, { on := 6, ground := Ground.phase }, { on := 7, ground := Ground.phase }, { on := 8, ground := Ground.phase }, { on := 9, ground := Ground.phase }, { on := 10, ground := Ground.phase }], guard := none } : Oper)) rfl (fun K hK => ?_) ?_
    · go_simp
      refine hK.out _ _ ?_ (fun hHeld => ?_)
      · exact g1
      clear hK K
      (try simp only [Act.put, List.setIfInBounds_toArray, List.set_cons_zero, List.set_cons_succ])
      refine wpAnyH_done (by kernel_rfl) ?_ _
      refine NoPanic.normal ?_
      go_wp2_with fail
      first
        | go_end0
        | skip
      exact ⟨rfl, (HN.out.turn A' z' c').drew, only_setCell (only_setCell (grown_of (Below.refl _ _).drew g) rfl _) rfl _⟩
    exact AllReadyH.nil
  exact AllReadyH.nil
end Go.Proofs.Ytmagdhcpbofkbaa
/-
  A block of runs that may be written: copy, clear and append upon it.
-/
namespace Go.Proofs.Ytmagdhcpbofkbaa
open Go.ChangeShapes Go.WideShapes Go.ChangeAt Go.RowKit Go.Deep
set_option linter.unusedVariables false
set_option maxRecDepth 20000

def rc (l : List M.R) : List Value := l.flatMap fun r => [.int .i64 r.p, .int .i64 r.n]
theorem rc_nil : rc [] = [] := rfl
theorem rc_cons (r : M.R) (l : List M.R) : rc (r :: l) = .int .i64 r.p :: .int .i64 r.n :: rc l := rfl
theorem rc_append (l m : List M.R) : rc (l ++ m) = rc l ++ rc m := by simp [rc]
theorem rc_length (l : List M.R) : (rc l).length = l.length * 2 := by
  induction l with
  | nil => rfl
  | cons r l ih => rw [rc_cons]; simp only [List.length_cons, ih]; omega
theorem rc_take (l : List M.R) : ∀ k, rc (l.take k) = (rc l).take (k * 2) := by
  induction l with
  | nil => intro k; simp [rc_nil]
  | cons r l ih =>
    intro k
    cases k with
    | zero => simp [rc_nil]
    | succ k => rw [List.take_succ_cons, rc_cons, rc_cons, ih, show (k + 1) * 2 = k * 2 + 1 + 1 by omega, List.take_succ_cons, List.take_succ_cons]
theorem rc_drop (l : List M.R) : ∀ k, rc (l.drop k) = (rc l).drop (k * 2) := by
  induction l with
  | nil => intro k; simp [rc_nil]
  | cons r l ih =>
    intro k
    cases k with
    | zero => simp
    | succ k => rw [List.drop_succ_cons, rc_cons, ih, show (k + 1) * 2 = k * 2 + 1 + 1 by omega, List.drop_succ_cons, List.drop_succ_cons]
theorem rc_one (l : List M.R) : ∀ u ∈ rc l, u.oneCell' = true := by
  intro u hu
  unfold rc at hu
  obtain ⟨r, _, h⟩ := List.mem_flatMap.1 hu
  simp only [List.mem_cons, List.not_mem_nil, or_false] at h
  rcases h with rfl | rfl <;> rfl
theorem rc_at (l : List M.R) : ∀ (k : Nat) (h : k < l.length), (rc l)[k * 2]? = some (.int .i64 l[k].p) ∧ (rc l)[k * 2 + 1]? = some (.int .i64 l[k].n) := by
  induction l with
  | nil => intro k h; simp at h
  | cons r l ih =>
    intro k h
    cases k with
    | zero => exact ⟨rfl, rfl⟩
    | succ k =>
      have := ih k (by simpa using h)
      rw [rc_cons, show (k + 1) * 2 = k * 2 + 1 + 1 by omega]
      simp only [List.getElem?_cons_succ, List.getElem_cons_succ]
      exact this
theorem runs_cells {w : World} {bl o : Nat} {l : List M.R} (h : ∀ i (h : i < l.length), w.cell? ⟨bl, o + i * 2, none⟩ = some (.int .i64 l[i].p) ∧ w.cell? ⟨bl, o + i * 2 + 1, none⟩ = some (.int .i64 l[i].n)) :
    ∀ j u, (rc l)[j]? = some u → w.cell? ⟨bl, o + j, none⟩ = some u := fun j u hu => by
  have hj : j < l.length * 2 := by
    rw [← rc_length]
    exact (List.getElem?_eq_some_iff.1 hu).1
  have hk : j / 2 < l.length := by omega
  have h1 := rc_at l (j / 2) hk
  have h2 := h (j / 2) hk
  rcases (show j = j / 2 * 2 ∨ j = j / 2 * 2 + 1 by omega) with e | e
  · rw [e] at hu
    rw [h1.1] at hu
    injection hu with hu
    rw [← hu, ← h2.1, ← e]
  · rw [e] at hu
    rw [h1.2] at hu
    injection hu with hu
    rw [← hu, ← h2.2, Nat.add_assoc, ← e]

/-- A block whose cells are known and may be written. -/
def Blk (w : World) (g : Nat) (cs : List Value) : Prop := w.heap[g]? = some (.cells cs.toArray 34 (0, 0))
section
variable {w w' : World} {g : Nat} {cs : List Value}
theorem Blk.lt (h : Blk w g cs) : g < w.heap.size := (Array.getElem?_eq_some_iff.1 h).1
theorem Blk.cell (h : Blk w g cs) (j : Nat) : w.cell? ⟨g, j, none⟩ = cs[j]? := by rw [cell_of_row w g j _ _ _ h]; simp
theorem Blk.frozen (h : Blk w g cs) (j : Nat) : w.frozen? ⟨g, j, none⟩ = false := by
  unfold World.frozen?
  rw [show w.heap[(⟨g, j, none⟩ : Addr).block]? = _ from h]
  simp
theorem Blk.shape (h : Blk w g cs) : w.shape? g = some (34, cs.length) := by
  unfold World.shape?
  rw [h]
  simp
theorem Blk.drew (h : Blk w g cs) : Blk w.drew g cs := h
theorem Blk.keep (h : Blk w g cs) (hb : w'.heap[g]? = w.heap[g]?) : Blk w' g cs := hb.trans h
theorem Blk.set (h : Blk w g cs) (ds : List Value) : Blk (w.setRow g ds.toArray) g ds := setRow_heap w g _ _ _ _ h
theorem Blk.other {b : Nat} (h : Blk w b cs) (hb : b ≠ g) (ds : Array Value) : Blk (w.setRow g ds) b cs := (setRow_other w g b ds hb).trans h
theorem Blk.new (w : World) (cs : List Value) : Blk (w.alloc (.cells cs.toArray 34)) w.heap.size cs := by
  unfold Blk World.alloc
  simp
theorem Blk.alloc (h : Blk w g cs) (o : Obj) : Blk (w.alloc o) g cs := h.keep (Below.heap_alloc w o g h.lt)
theorem below_setRow {B : Nat} {a : World} (h : Below B a w) (hg : B ≤ g) (ds : Array Value) : Below B a (w.setRow g ds) :=
  ⟨h.os, h.tape, h.output, by simpa using h.size, fun i hi => (setRow_other w g i ds (by omega)).trans (h.block i hi)⟩
/-- Runs at the head of a block. -/
theorem Blk.runs (h : Blk w g cs) {l : List M.R} (hl : cs.take (l.length * 2) = rc l) : Runs w (some ⟨g, 0, none⟩) l := fun _ => ⟨g, 0, rfl, fun i hi => by
  have h1 := rc_at l i hi
  rw [← hl] at h1
  rw [List.getElem?_take, List.getElem?_take, if_pos (by omega), if_pos (by omega)] at h1
  rw [h.cell, h.cell, Nat.zero_add]
  exact h1⟩
end

/-- Some cells are written over others. -/
def splice (cs : List Value) (o : Nat) (ds : List Value) : List Value := cs.take o ++ ds ++ cs.drop (o + ds.length)
theorem splice_length (cs : List Value) (o : Nat) (ds : List Value) (h : o + ds.length ≤ cs.length) : (splice cs o ds).length = cs.length := by
  unfold splice
  simp
  omega
theorem splice_take (cs : List Value) (o k : Nat) (ds : List Value) (h : o + ds.length ≤ cs.length) (hk : k ≤ o) : (splice cs o ds).take k = cs.take k := by
  unfold splice
  rw [List.append_assoc, List.take_append_of_le_length (by simp; omega), List.take_take, Nat.min_eq_left hk]
theorem splice_nil (cs : List Value) (o : Nat) : splice cs o [] = cs := by unfold splice; simp

theorem info36 : ∃ i, Try.prog.info? 34 = some i ∧ i.zero = some (.agg #[.int .i64 0, .int .i64 0]) ∧ i.size = 2 ∧ i.bytes = 16 := ⟨_, by rfl, by rfl, by rfl, by rfl⟩
theorem zero36 (w : World) : (zeroValue 34).run Try.prog w = .ok (.agg #[.int .i64 0, .int .i64 0]) w := by kernel_rfl

section
variable (w : World) (ty : TypeId) (g o : Nat) (cs : List Value)
/-- 'copy' upon a block. -/
theorem run_copy2 (h : Blk w g cs) (dLen dCap : Nat) (a : Addr) (sLen sCap m : Nat) (src : List Value) (hm : m = Nat.min sLen dLen) (hl : src.length = m * 2)
    (hsrc : ∀ j v, src[j]? = some v → w.cell? (a.add j) = some v) (hfit : o + src.length ≤ cs.length) (h1 : ∀ v ∈ src, v.oneCell' = true) :
    (Builtin.copy_ #[29, 29] ty #[.slice (some ⟨g, o, none⟩) dLen dCap, .slice (some a) sLen sCap]).run Try.prog w = .ok (goInt m) (w.setRow g (splice cs o src).toArray) := by
  have hld := run_loadCells_list (P := Try.prog) w a src hsrc
  have hst := run_storeCells_at Try.prog g o 34 src 0 cs.toArray w h (by simpa using hfit) h1
  obtain ⟨i, hi, hz, hs, hb⟩ := info36
  rw [hl] at hld
  simp only [Nat.add_zero] at hst
  simp [Builtin.copy_, run_underlying Try.underlying29, Builtin.lenOf, Builtin.firstCells, sizeOf, typeInfo, hi, hs, ← hm, hld, hst, splice]
/-- 'append' upon a block in which there is room. -/
theorem run_room2 (h : Blk w g cs) (n c : Nat) (a : Addr) (m mc : Nat) (src : List Value) (hl : src.length = m * 2) (hroom : n + m ≤ c)
    (hsrc : ∀ j v, src[j]? = some v → w.cell? (a.add j) = some v) (hfit : n * 2 + src.length ≤ cs.length) (h1 : ∀ v ∈ src, v.oneCell' = true) :
    (Builtin.append_ #[29, 29] ty #[.slice (some ⟨g, 0, none⟩) n c, .slice (some a) m mc]).run Try.prog w = .ok (.slice (some ⟨g, 0, none⟩) (n + m) c) (w.setRow g (splice cs (n * 2) src).toArray) := by
  have hld := run_loadCells_list (P := Try.prog) w a src hsrc
  have hst := run_storeCells_at Try.prog g (n * 2) 34 src 0 cs.toArray w h (by simpa using hfit) h1
  obtain ⟨i, hi, hz, hs, hb⟩ := info36
  rw [hl] at hld
  simp only [Nat.add_zero] at hst
  have ha : (⟨g, 0, none⟩ : Addr).add (n * 2) = ⟨g, n * 2, none⟩ := by unfold Addr.add; split <;> simp_all
  simp [Builtin.append_, run_underlying Try.underlying29, Builtin.lenOf, Builtin.firstCells, sizeOf, typeInfo, hi, hs, hroom, hld, hst, splice, ha]
/-- 'clear' upon a block. -/
theorem zeros2 (n : Nat) : (Builtin.zeroCells (Value.agg #[.int .i64 0, .int .i64 0]).cells n).toList = List.replicate (n * 2) (.int .i64 0) := by
  have hc : (Value.agg #[.int .i64 0, .int .i64 0]).cells = #[.int .i64 0, .int .i64 0] := rfl
  rw [hc]
  apply List.ext_getElem
  · simp [Builtin.zeroCells]
  · intro i h1 h2
    simp only [Builtin.zeroCells, Array.toList_map, List.getElem_map, List.getElem_replicate]
    have : i % 2 = 0 ∨ i % 2 = 1 := by omega
    simp
    rcases this with h | h <;> simp [h]
theorem run_clear2 (h : Blk w g cs) (n c : Nat) (hn : 0 < n) (hfit : o + n * 2 ≤ cs.length) :
    (Builtin.clear_ #[29] ty #[.slice (some ⟨g, o, none⟩) n c]).run Try.prog w = .ok (.tuple #[]) (w.setRow g (splice cs o (List.replicate (n * 2) (.int .i64 0))).toArray) := by
  have hst := run_storeCells_at Try.prog g o 34 (List.replicate (n * 2) (.int .i64 0)) 0 cs.toArray w h (by simpa using hfit) (fun v hv => by rw [List.eq_of_mem_replicate hv]; rfl)
  simp only [Nat.add_zero] at hst
  obtain ⟨m, rfl⟩ : ∃ m, n = m + 1 := ⟨n - 1, by omega⟩
  have hz : (Builtin.zeroCells #[.int .i64 0, .int .i64 0] (m + 1)).toList = List.replicate ((m + 1) * 2) (.int .i64 0) := zeros2 (m + 1)
  simp only [Builtin.clear_, go_sem]
  simp [run_underlying Try.underlying29]
  rw [hz, hst]
  simp [splice]
theorem run_clear0 (A : Option Addr) (c : Nat) : (Builtin.clear_ #[29] ty #[.slice A 0 c]).run Try.prog w = .ok (.tuple #[]) w := by
  cases A <;> simp [Builtin.clear_, run_underlying Try.underlying29]
theorem run_append0 (A : Option Addr) (n c : Nat) (hn : n ≤ c) (B : Option Addr) (mc : Nat) : (Builtin.append_ #[29, 29] ty #[.slice A n c, .slice B 0 mc]).run Try.prog w = .ok (.slice A n c) w := by
  obtain ⟨i, hi, hz, hs, hb⟩ := info36
  have hl : ∀ (x : Addr), (loadCells x 0).run Try.prog w = .ok #[] w := fun x => by simpa using run_loadCells_list (P := Try.prog) w x [] (by simp)
  cases A <;> cases B <;> simp [Builtin.append_, run_underlying Try.underlying29, Builtin.lenOf, Builtin.firstCells, sizeOf, typeInfo, hi, hs, hn, hl, storeCells]
end
end Go.Proofs.Ytmagdhcpbofkbaa
/-
  slices.Clone of runs.
-/
namespace Go.Proofs.Ytmagdhcpbofkbaa
open Go.ChangeShapes Go.WideShapes Go.ChangeAt Go.RowKit Go.Deep
set_option linter.unusedVariables false
set_option maxRecDepth 20000

/-- A list of runs of one's own: none, or a block. -/
def MineR (w : World) (B : Nat) (A : Option Addr) (l : List M.R) (c : Nat) : Prop :=
  (A = none ∧ l = [] ∧ c = 0) ∨ ∃ g cs, A = some ⟨g, 0, none⟩ ∧ B ≤ g ∧ Blk w g cs ∧ l.length ≤ c ∧ c ≤ maxLen ∧ cs.length = c * 2 ∧ cs.take (l.length * 2) = rc l
theorem MineR.runs {w : World} {B c : Nat} {A : Option Addr} {l : List M.R} (h : MineR w B A l c) : Runs w A l := by
  rcases h with ⟨rfl, rfl, _⟩ | ⟨g, cs, rfl, _, hb, _, _, _, hl⟩
  · exact Runs.nil
  · exact hb.runs hl
theorem mine_of {w : World} {B n c g : Nat} {l : List M.R} (hn : n = l.length) (h : w.ownsRow B 34 2 (.slice (some ⟨g, 0, none⟩) n c) n (rc l)) : MineR w B (some ⟨g, 0, none⟩) l c := by
  rcases h.2 with ⟨h, _⟩ | ⟨g', cap, cur, e, hb, hg, h1, h2, h3, h4⟩
  · cases h
  · injection e with e1 e2 e3
    injection e1 with e1
    injection e1 with e1
    subst e1 e3 hn
    exact .inr ⟨g, cur.toList, rfl, hb, by unfold Blk; rw [Array.toArray_toList]; exact hg, h1, h2, by simpa using h3, h4⟩

theorem only_below2 {w w' : World} {o : Obj} {c : Nat} (h : (w.alloc o).grownBy w' (Value.slice (some ⟨w.heap.size, 0, none⟩) 0 c).ownBlock) : Below w.heap.size w w' :=
  ⟨h.os, h.tape, h.output, Nat.le_trans (le_alloc w o) h.size, fun i hi => (h.block i (Nat.lt_of_lt_of_le hi (le_alloc w o)) (fun e => by simp [Value.ownBlock] at e; omega)).trans (Below.heap_alloc w o i hi)⟩

set_option maxHeartbeats 1000000 in
theorem clone_any (w : World) (A : Option Addr) (l : List M.R) (z c : Nat) (hz : z = l.length) (hA : Runs w A l) (hl : z ≤ 4000000000) :
    Calls Try.prog 46 #[.slice A z c] w fun e w' => ∃ A' c', e = .returned (.slice A' z c') ∧ MineR w' w.heap.size A' l c' ∧ Below w.heap.size w w' := by
  obtain ⟨i, hi, hi0, hi1, hi2⟩ := info36
  have HI := Lib.hid (And.intro hi (And.intro hi0 (And.intro hi1 hi2)))
  have HZ := Lib.hid hz
  have HA := Lib.hid hA
  clear hi hi0 hi1 hi2 hz hA
  have eqn := fun (W : World) => Lib.run_eql_slice_nil (P := Try.prog) W 29 34 A z c 0 0 Try.underlying29
  go_enter Try.func46, Try.ntmps46
  cases A with
  | none =>
    have h0 : z = 0 := by
      rcases Nat.eq_zero_or_pos z with h | h
      · exact h
      · obtain ⟨bl, o, e, _⟩ := HA.out (by rw [← HZ.out]; exact h)
        cases e
    subst h0
    have el : l = [] := List.eq_nil_of_length_eq_zero HZ.out.symm
    go_wp2_with fail
    go_ret
    exact ⟨none, 0, rfl, .inl ⟨rfl, el, rfl⟩, Below.refl _ _⟩
  | some ad =>
    by_cases h0 : z = 0
    · have ap := fun (W : World) (ty : TypeId) (g : Nat) => run_append0 W ty (some ⟨g, 0, none⟩) 0 0 (Nat.le_refl _) (some ad) c
      subst h0
      have el : l = [] := List.eq_nil_of_length_eq_zero HZ.out.symm
      go_wp2_with fail
      go_ret
      exact ⟨_, 0, rfl, .inr ⟨w.heap.size, [], rfl, Nat.le_refl _, Blk.new w [], by rw [el]; exact Nat.le_refl _, by unfold maxLen; omega, rfl, by rw [el]; rfl⟩, (Below.refl _ _).alloc (Nat.le_refl _) _⟩
    · have own0 : (w.alloc (.cells #[] 34)).ownsRow w.heap.size 34 2 (.slice (some ⟨w.heap.size, 0, none⟩) 0 0) 0 [] := ⟨rfl, .inr ⟨_, 0, #[], rfl, Nat.le_refl _, Blk.new w [], Nat.le_refl _, by unfold maxLen; omega, rfl, rfl⟩⟩
      obtain ⟨bl, o, e, hc⟩ := HA.out (by rw [← HZ.out]; omega)
      have hcl := runs_cells hc
      injection e with e
      have hnews : ∀ j u, (rc l)[j]? = some u → (w.alloc (.cells #[] 34)).cell? (ad.add j) = some u := fun j u hu => by
        rw [e, Addr.add_lit]
        exact Lib.cell?_alloc_some _ (hcl j u hu)
      have hrl : (rc l).length = z * 2 := by rw [rc_length, HZ.out]
      have OWN := Lib.hid own0
      have HNW := Lib.hid hnews
      have HRL := Lib.hid hrl
      have eqn2 := eqn w
      clear own0 hnews hrl hc hcl e eqn
      go_wp2_with (at_builtin; refine wpList_append_lies _ rfl _ _ 29 rfl w.heap.size 34 i (.agg #[.int .i64 0, .int .i64 0]) 2 16 Try.underlying29 HI.out.1 HI.out.2.1 HI.out.2.2.1 HI.out.2.2.2 rfl (by decide) (.slice (some ⟨w.heap.size, 0, none⟩) 0 0) 0 [] rfl OWN.out ad z c (rc l) rfl HRL.out HNW.out (rc_one l) (by omega) (by unfold maxLen; omega) (by omega) (by simp) _ rfl ?_; intro g1 c1 w4 hrow hgr hat hlt)
      go_ret
      refine ⟨_, c1, rfl, mine_of HZ.out (by simpa using hrow), ?_⟩
      exact only_below2 hgr
end Go.Proofs.Ytmagdhcpbofkbaa
/-
  The small functions of an Alloc: New, Pages, Ticks, Free, Runs, Largest; and of nil.
-/
namespace Go.Proofs.Ytmagdhcpbofkbaa
open Go.ChangeShapes Go.WideShapes Go.ChangeAt Go.RowKit Go.Deep
set_option linter.unusedVariables false
set_option maxRecDepth 20000

namespace M
/-- The longest run's pages. -/
def most : List R → Int
  | [] => 0
  | r :: l => max r.n (most l)
theorem most_snoc (l : List R) (r : R) : most (l ++ [r]) = max (most l) (max r.n 0) := by
  induction l with
  | nil => simp only [List.nil_append, most]; omega
  | cons s l ih => simp only [List.cons_append, most, ih]; omega
theorem most_nonneg (l : List R) : 0 ≤ most l := by
  induction l with
  | nil => exact Int.le_refl _
  | cons s l ih => simp only [most]; omega
theorem most_take (l : List R) (k : Nat) (h : k < l.length) : most (l.take (k + 1)) = max (most (l.take k)) l[k].n := by
  rw [List.take_succ_eq_append_getElem h, most_snoc]
  have := most_nonneg (l.take k)
  omega
theorem le_most {l : List R} {r : R} (h : r ∈ l) : r.n ≤ most l := by
  induction l with
  | nil => cases h
  | cons s l ih =>
    simp only [most]
    rcases List.mem_cons.1 h with rfl | h
    · omega
    · have := ih h; omega
theorem most_is {l : List R} (h : 0 < most l) : ∃ r ∈ l, r.n = most l := by
  induction l with
  | nil => simp [most] at h
  | cons s l ih =>
    simp only [most] at h ⊢
    by_cases hs : most l ≤ s.n
    · exact ⟨s, by simp, by omega⟩
    · obtain ⟨r, hr, e⟩ := ih (by omega)
      exact ⟨r, by simp [hr], by omega⟩
theorem len_total {a N : Int} {l : List R} (h : Ok a N l) : (l.length : Int) ≤ total l := by
  induction l generalizing a with
  | nil => exact Int.le_refl _
  | cons r l ih => rw [total_cons]; have := ih h.2.2.2.2; have := h.2.2.1; simp only [List.length_cons]; omega
theorem len_le {N : Int} {l : List R} (h : Ok (-1) N l) (hN : 0 ≤ N) : (l.length : Int) ≤ N + 1 := by
  have h1 := len_total h
  have h2 := total_le h (by omega)
  omega
end M

set_option maxHeartbeats 2000000 in
theorem al_new (w : World) (x : Int) (P : Int) (hP : P = min (max x 1) 1048576) :
    Calls Try.prog 21 #[.int .i64 x] w fun e w' => ∃ g, e = .returned (.pointer (some ⟨g, 0, none⟩)) ∧ Has w' g P [⟨0, P⟩] 0 ∧ Below w.heap.size w w' ∧ w.heap.size ≤ g := by
  have HN := Lib.hid (fun (W : World) A => Al.new W P A 1 1 0)
  have HB := Lib.hid (Below.refl w.heap.size w)
  have HR := Lib.hid (Box.new w 34 0 P)
  have HF := Lib.hid (show ∀ W : World, Below w.heap.size w W → Box W w.heap.size 0 P → Has W (w.heap.size + 1) P [⟨0, P⟩] 0 → ∃ g, Ending.returned (Value.pointer (some ⟨w.heap.size + 1, 0, none⟩)) = .returned (.pointer (some ⟨g, 0, none⟩)) ∧ Has W g P [⟨0, P⟩] 0 ∧ Below w.heap.size w W ∧ w.heap.size ≤ g from fun W hb _ h => ⟨_, rfl, h, hb, by omega⟩)
  have HW := Lib.hid (show ∃ g, Ending.returned (Value.pointer (some ⟨w.heap.size + 1, 0, none⟩)) = .returned (.pointer (some ⟨g, 0, none⟩)) ∧ Has ((w.alloc (.cells #[.int .i64 0, .int .i64 P] 34)).alloc (.cells #[.int .i64 P, .slice (some ⟨w.heap.size, 0, none⟩) 1 1, .int .i64 0] 75)) g P [⟨0, P⟩] 0 ∧ Below w.heap.size w ((w.alloc (.cells #[.int .i64 0, .int .i64 P] 34)).alloc (.cells #[.int .i64 P, .slice (some ⟨w.heap.size, 0, none⟩) 1 1, .int .i64 0] 75)) ∧ w.heap.size ≤ g from by
    have h1 := Al.new (w.alloc (.cells #[.int .i64 0, .int .i64 P] 34)) P (some ⟨w.heap.size, 0, none⟩) 1 1 0
    have h2 := (Box.new w 34 0 P).alloc (.cells #[.int .i64 P, .slice (some ⟨w.heap.size, 0, none⟩) 1 1, .int .i64 0] 75)
    rw [show (w.alloc (.cells #[.int .i64 0, .int .i64 P] 34)).heap.size = w.heap.size + 1 by simp] at h1
    refine ⟨w.heap.size + 1, rfl, ⟨_, _, _, h1, rfl, fun _ => ⟨w.heap.size, 0, rfl, fun i hi => ?_⟩⟩, ((Below.refl _ _).alloc (Nat.le_refl _) _).alloc (by simp) _, by omega⟩
    have : i = 0 := by simp at hi; omega
    subst this
    exact ⟨h2.c0, h2.c1⟩)
  clear HN HB HR HF
  go_enter Try.func21, Try.ntmps21
  by_cases h1 : x < 1
  · have e2 : P = 1 := by omega
    subst e2
    clear hP
    go_wp2_with fail
    go_ret
    exact HW.out
  · by_cases h2 : 1048576 < x
    · have e2 : P = 1048576 := by omega
      subst e2
      clear hP
      go_wp2_with fail
      go_ret
      exact HW.out
    · have e2 : P = x := by omega
      subst e2
      clear hP
      go_wp2_with fail
      all_goals go_ret
      all_goals exact HW.out

/-- Runs that were answered. -/
def GotR (w : World) (l : List M.R) (e : Ending) (w' : World) : Prop := ∃ A' t c', e = .returned (.slice A' t c') ∧ t = l.length ∧ Runs w' A' l ∧ Below w.heap.size w w'

set_option maxHeartbeats 2000000 in
theorem al_runs (w : World) (g : Nat) (P : Int) (l : List M.R) (T : Int) (h : Has w g P l T) (hok : M.Ok (-1) P l) (h0 : 0 ≤ P) (hP : P ≤ 1048576) :
    Calls Try.prog 31 #[.pointer (some ⟨g, 0, none⟩)] w (GotR w l) := by
  obtain ⟨A, z, c, h, hz, hr⟩ := h
  have hl := M.len_le hok h0
  have HC := Lib.hid (clone_any w A l z c hz hr (by omega))
  have HZ := Lib.hid hz
  have c1 := h.c1
  clear h hr hz hok hl h0 hP
  go_enter Try.func31, Try.ntmps31
  go_wp2_with fail
  refine HC.out.mono ?_
  rintro e w1 ⟨A', c', rfl, hm, hb⟩
  go_wp2_with fail
  go_ret
  exact ⟨A', z, c', rfl, HZ.out, hm.runs, hb⟩

theorem clo_end (w : World) (b : Nat) (m n : Int) (hc : w.cell? ⟨b, 0, none⟩ = some (.int .i64 m)) (hf : w.frozen? ⟨b, 0, none⟩ = false) (o : Obj) :
    ((w.setCell ⟨b, 0, none⟩ (.int .i64 n)).alloc o).cell? ⟨b, 0, none⟩ = some (.int .i64 n) ∧ ((w.setCell ⟨b, 0, none⟩ (.int .i64 n)).alloc o).frozen? ⟨b, 0, none⟩ = false ∧ w.grownBy ((w.setCell ⟨b, 0, none⟩ (.int .i64 n)).alloc o) (some b) := by
  have h1 : (w.setCell ⟨b, 0, none⟩ (.int .i64 n)).cell? ⟨b, 0, none⟩ = some (.int .i64 n) := World.cell?_setCell_same _ _ _ hc
  have h2 := lt_of_cell h1
  refine ⟨(World.cell?_alloc_lt _ _ ⟨b, 0, none⟩ h2).trans h1, (World.frozen?_of_block (a := ⟨b, 0, none⟩) (Below.heap_alloc _ _ b h2)).trans ?_, grown_go (only_setCell (grown_of (Below.refl _ _) b) rfl _) (grown_of ((Below.refl _ _).alloc (Nat.le_refl _) _) b)⟩
  rw [World.frozen?_setCell]
  exact hf
section
variable (w : World)
set_option maxHeartbeats 1000000
theorem nil_runs : Calls Try.prog 31 #[.pointer none] w fun e w' => e = .returned (.slice none 0 0) ∧ Below w.heap.size w w' := by
  go_enter Try.func31, Try.ntmps31
  go_wp2_with fail
  go_ret
  exact ⟨rfl, Below.refl _ _⟩
theorem nil_take (n : Int) : Calls Try.prog 50 #[.pointer none, .int .i64 n] w fun e w' => e = .returned (.tuple #[.int .i64 0, .int .i64 1]) ∧ Below w.heap.size w w' := by
  go_enter Try.func50, Try.ntmps50
  go_wp2_with fail
  go_ret2
  exact ⟨rfl, Below.refl _ _⟩
theorem nil_give (p n : Int) : Calls Try.prog 39 #[.pointer none, .int .i64 p, .int .i64 n] w fun e w' => e = .returned (.int .i64 1) ∧ Below w.heap.size w w' := by
  go_enter Try.func39, Try.ntmps39
  go_wp2_with fail
  go_ret
  exact ⟨rfl, Below.refl _ _⟩
end
end Go.Proofs.Ytmagdhcpbofkbaa
