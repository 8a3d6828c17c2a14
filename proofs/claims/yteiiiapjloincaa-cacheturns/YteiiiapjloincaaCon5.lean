/-
  The program's functions that only read a list of runs: Total, Has, Best, Right.
-/
import Derived.Test.YteiiiapjloincaaRow5
namespace Go.Proofs.Yteiiiapjloincaa
open Go.ChangeShapes Go.WideShapes Go.ChangeAt Go.RowKit Go.Deep
set_option linter.unusedVariables false
set_option maxRecDepth 20000

theorem ok_at {a N : Int} {l : List M.R} (h : M.Ok a N l) (k : Nat) (hk : k < l.length) : a < l[k].p ∧ 0 ≤ l[k].p ∧ 1 ≤ l[k].n ∧ l[k].p + l[k].n ≤ N := h.mem _ (List.getElem_mem hk)
theorem total_between {N : Int} {l : List M.R} (h : M.Ok (-1) N l) (hN : 0 ≤ N) (k : Nat) : 0 ≤ M.total (l.take k) ∧ M.total (l.take k) ≤ N + 1 := ⟨M.total_nonneg (h.take k), by have := M.total_le (h.take k) (by omega); omega⟩

def hit (r : M.R) (p n : Int) : Bool := decide (p < r.p + r.n) && decide (r.p - n < p)
theorem has_eq (l : List M.R) (p n : Int) : M.has l p n = (decide (1 ≤ n) && l.any (fun r => hit r p n)) := rfl
theorem has_yes {l : List M.R} {p n : Int} (hn : 1 ≤ n) (k : Nat) (hk : k < l.length) (h : hit l[k] p n = true) : M.has l p n = true := by
  rw [has_eq]
  simp only [Bool.and_eq_true, decide_eq_true_eq, List.any_eq_true]
  exact ⟨hn, l[k], List.getElem_mem hk, h⟩
theorem has_no {l : List M.R} {p n : Int} (h : ∀ j (h : j < l.length), hit l[j] p n = false) : M.has l p n = false := by
  rw [has_eq]
  have : l.any (fun r => hit r p n) = false := by
    rw [List.any_eq_false]
    intro r hr
    obtain ⟨j, hj, rfl⟩ := List.getElem_of_mem hr
    rw [h j hj]
    simp
  rw [this, Bool.and_false]
theorem has_small {l : List M.R} {p n : Int} (h : n < 1) : M.has l p n = false := by
  rw [has_eq]
  have : decide (1 ≤ n) = false := by simp; omega
  rw [this, Bool.false_and]

end Go.Proofs.Yteiiiapjloincaa
