/-
  The program's Best and Right.
-/
import Derived.Test.YteiiiapjloincaaCon5
import Derived.Deep.DeepCutAuto
import Derived.Deep.RegionHeld3
namespace Go.Proofs.Yteiiiapjloincaa
open Go.ChangeShapes Go.WideShapes Go.ChangeAt Go.RowKit Go.Deep
set_option linter.unusedVariables false
set_option maxRecDepth 20000

namespace M
/-- The best one so far, one run further. -/
theorem IsBest.skip {l : List R} {n b : Int} {r : R} (h : IsBest l n b) (hr : r.n < n ∨ (0 ≤ b ∧ ∀ k (hk : k < l.length), b = k → l[k].n ≤ r.n)) : IsBest (l ++ [r]) n b := by
  rcases h with ⟨rfl, h⟩ | ⟨k, hk, rfl, h1, h2, h3⟩
  · refine .inl ⟨rfl, h.imp id (fun h s hs => ?_)⟩
    rcases List.mem_append.1 hs with hs | hs
    · exact h s hs
    · rw [List.mem_singleton] at hs
      subst hs
      rcases hr with hr | ⟨hr, _⟩
      · exact hr
      · omega
  · refine .inr ⟨k, by simp; omega, rfl, h1, by rw [List.getElem_append_left hk]; exact h2, fun j hj hn => ?_⟩
    rw [List.getElem_append_left hk]
    rcases Nat.lt_or_ge j l.length with hjl | hjl
    · rw [List.getElem_append_left hjl] at hn ⊢
      exact h3 j hjl hn
    · have e : j = l.length := by simp at hj; omega
      subst e
      rw [List.getElem_append_right (Nat.le_refl _)] at hn ⊢
      simp only [Nat.sub_self, List.getElem_cons_zero] at hn ⊢
      rcases hr with hr | ⟨_, hr⟩
      · omega
      · exact ⟨hr k hk rfl, fun h => by omega⟩
theorem IsBest.take {l : List R} {n b : Int} {r : R} (h : IsBest l n b) (hn : 1 ≤ n) (hr : n ≤ r.n) (hb : b < 0 ∨ ∃ k, ∃ hk : k < l.length, b = (k : Nat) ∧ r.n < l[k].n) : IsBest (l ++ [r]) n (l.length : Int) := by
  refine .inr ⟨l.length, by simp, rfl, hn, by simpa using hr, fun j hj hjn => ?_⟩
  have el : (l ++ [r])[l.length]'(by simp) = r := by simp
  rw [el]
  rcases Nat.lt_or_ge j l.length with hjl | hjl
  · rw [List.getElem_append_left hjl] at hjn ⊢
    rcases h with ⟨rfl, h⟩ | ⟨k, hk, rfl, h1, h2, h3⟩
    · exfalso
      rcases h with h | h
      · omega
      · have := h _ (List.getElem_mem hjl); omega
    · have := h3 j hjl hjn
      rcases hb with hb | ⟨k', hk', e, hb⟩
      · omega
      · have e : k = k' := by omega
        subst e
        exact ⟨by omega, fun _ => by omega⟩
  · have e : j = l.length := by simp at hj; omega
    subst e
    rw [el]
    exact ⟨Int.le_refl _, fun h => by omega⟩
theorem best_none {l : List R} {n : Int} (h : n < 1) : best n l = -1 := (best_eq (.inl ⟨rfl, .inl h⟩)).symm
end M

/-- What is known of the best run so far. -/
def Upto (l : List M.R) (n : Int) (k : Nat) (b p m : Int) : Prop :=
  M.IsBest (l.take k) n b ∧ ((b = -1 ∧ p = 0 ∧ m = 0) ∨ ∃ j, ∃ h : j < l.length, j < k ∧ b = (j : Nat) ∧ p = l[j].p ∧ m = l[j].n)
theorem Upto.skip {l : List M.R} {n : Int} {k : Nat} {b p m : Int} (h : Upto l n k b p m) (hk : k < l.length) (hr : l[k].n < n ∨ (b ≠ -1 ∧ m ≤ l[k].n)) : Upto l n (k + 1) b p m := by
  obtain ⟨h1, h2⟩ := h
  refine ⟨?_, h2.imp id (fun ⟨j, hj, h⟩ => ⟨j, hj, by omega, h.2⟩)⟩
  rw [List.take_succ_eq_append_getElem hk]
  refine h1.skip (hr.imp id (fun ⟨ha, hb⟩ => ?_))
  rcases h2 with ⟨rfl, _⟩ | ⟨j, hj, hjk, rfl, _, rfl⟩
  · exact absurd rfl ha
  · refine ⟨by omega, fun i hi e => ?_⟩
    have e : j = i := by omega
    subst e
    rw [List.getElem_take]
    exact hb
theorem Upto.take {l : List M.R} {n : Int} {k : Nat} {b p m : Int} (h : Upto l n k b p m) (hk : k < l.length) (hn : 1 ≤ n) (hr : n ≤ l[k].n) (hb : b = -1 ∨ l[k].n < m) : Upto l n (k + 1) (k : Int) l[k].p l[k].n := by
  obtain ⟨h1, h2⟩ := h
  refine ⟨?_, .inr ⟨k, hk, by omega, rfl, rfl, rfl⟩⟩
  rw [List.take_succ_eq_append_getElem hk]
  have := h1.take (r := l[k]) hn hr (by
    rcases h2 with ⟨rfl, _⟩ | ⟨j, hj, hjk, rfl, _, rfl⟩
    · exact .inl (by omega)
    · rcases hb with hb | hb
      · omega
      · exact .inr ⟨j, by rw [List.length_take]; omega, rfl, by rw [List.getElem_take]; exact hb⟩)
  rw [List.length_take, Nat.min_eq_left (by omega)] at this
  exact this

/-! Right. -/
theorem M.Ok.adj {N : Int} : ∀ {l : List M.R} {a : Int}, M.Ok a N l → ∀ j (h : j + 1 < l.length), l[j].p + l[j].n < l[j + 1].p := by
  intro l
  induction l with
  | nil => intro a _ j h; simp at h
  | cons r l ih =>
    intro a hok j h
    cases j with
    | zero =>
      have := hok.2.2.2.2.mem (l[0]'(by simpa using h)) (List.getElem_mem _)
      simp only [List.getElem_cons_zero, List.getElem_cons_succ]
      exact this.1
    | succ j => exact ih hok.2.2.2.2 j (by simpa using h)
/-- The first k runs may be. -/
def Pre (l : List M.R) (N : Int) (k : Nat) : Prop := (∀ j (hj : j < l.length), j < k → fitsB l[j].p l[j].n N = true) ∧ ∀ j (hj : j + 1 < l.length), j + 1 < k → l[j].p + l[j].n < l[j + 1].p
theorem Pre.zero (l : List M.R) (N : Int) : Pre l N 0 := ⟨fun j _ h => by omega, fun j _ h => by omega⟩
theorem Pre.one {l : List M.R} {N : Int} (hk : 0 < l.length) (h1 : fitsB l[0].p l[0].n N = true) : Pre l N 1 :=
  ⟨fun j hj h => by obtain rfl : j = 0 := by omega
                    exact h1, fun j _ h => by omega⟩
theorem Pre.next {l : List M.R} {N : Int} {k : Nat} (h : Pre l N (k + 1)) (hk : k + 1 < l.length) (h1 : fitsB l[k + 1].p l[k + 1].n N = true) (h2 : l[k].p + l[k].n < l[k + 1].p) : Pre l N (k + 1 + 1) :=
  ⟨fun j hj hjk => by
    rcases Nat.lt_or_ge j (k + 1) with h3 | h3
    · exact h.1 j hj h3
    · obtain rfl : j = k + 1 := by omega
      exact h1, fun j hj hjk => by
    rcases Nat.lt_or_ge (j + 1) (k + 1) with h3 | h3
    · exact h.2 j hj h3
    · obtain rfl : j = k := by omega
      exact h2⟩
theorem okB_bad1 {l : List M.R} {N : Int} (k : Nat) (hk : k < l.length) (h : fitsB l[k].p l[k].n N = false) : M.okB (-1) N l = false := by
  rw [← Bool.not_eq_true, M.okB_iff]
  intro hok
  rw [(fitsB_iff _ _ _).2 (hok.mem _ (List.getElem_mem hk)).2] at h
  cases h
theorem okB_bad2 {l : List M.R} {N : Int} (k : Nat) (hk : k + 1 < l.length) (h : l[k + 1].p ≤ l[k].p + l[k].n) : M.okB (-1) N l = false := by
  rw [← Bool.not_eq_true, M.okB_iff]
  intro hok
  have := hok.adj k hk
  omega
theorem okB_good (N : Int) : ∀ (l : List M.R) (a : Int), (∀ h : 0 < l.length, a < l[0].p) → Pre l N l.length → M.okB a N l = true := by
  intro l
  induction l with
  | nil => intro a _ _; rfl
  | cons r l ih =>
    intro a h0 h1
    rw [M.okB_iff]
    have hr := (fitsB_iff _ _ _).1 (h1.1 0 (by simp) (by simp))
    simp only [List.getElem_cons_zero] at hr
    refine ⟨h0 (by simp), hr.1, hr.2.1, hr.2.2, ?_⟩
    rw [← M.okB_iff]
    refine ih _ (fun h => ?_) ⟨fun j hj _ => ?_, fun j hj _ => ?_⟩
    · exact h1.2 0 (by simpa using h) (by simpa using h)
    · exact h1.1 (j + 1) (by simpa using hj) (by simpa using hj)
    · exact h1.2 (j + 1) (by simpa using hj) (by simpa using hj)

end Go.Proofs.Yteiiiapjloincaa
