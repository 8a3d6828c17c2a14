/-
  slices.Clone of runs.
-/
import Derived.Test.YteiiiapjloincaaBlk5
namespace Go.Proofs.Yteiiiapjloincaa
open Go.ChangeShapes Go.WideShapes Go.ChangeAt Go.RowKit Go.Deep
set_option linter.unusedVariables false
set_option maxRecDepth 20000

/-- A list of runs of one's own: none, or a block. -/
def Mine (w : World) (B : Nat) (A : Option Addr) (l : List M.R) (c : Nat) : Prop :=
  (A = none ∧ l = [] ∧ c = 0) ∨ ∃ g cs, A = some ⟨g, 0, none⟩ ∧ B ≤ g ∧ Blk w g cs ∧ l.length ≤ c ∧ c ≤ maxLen ∧ cs.length = c * 2 ∧ cs.take (l.length * 2) = rc l
theorem Mine.runs {w : World} {B c : Nat} {A : Option Addr} {l : List M.R} (h : Mine w B A l c) : Runs w A l := by
  rcases h with ⟨rfl, rfl, _⟩ | ⟨g, cs, rfl, _, hb, _, _, _, hl⟩
  · exact Runs.nil
  · exact hb.runs hl
theorem mine_of {w : World} {B n c g : Nat} {l : List M.R} (hn : n = l.length) (h : w.ownsRow B 27 2 (.slice (some ⟨g, 0, none⟩) n c) n (rc l)) : Mine w B (some ⟨g, 0, none⟩) l c := by
  rcases h.2 with ⟨h, _⟩ | ⟨g', cap, cur, e, hb, hg, h1, h2, h3, h4⟩
  · cases h
  · injection e with e1 e2 e3
    injection e1 with e1
    injection e1 with e1
    subst e1 e3 hn
    exact .inr ⟨g, cur.toList, rfl, hb, by unfold Blk; rw [Array.toArray_toList]; exact hg, h1, h2, by simpa using h3, h4⟩

theorem only_below2 {w w' : World} {o : Obj} {c : Nat} (h : (w.alloc o).grownBy w' (Value.slice (some ⟨w.heap.size, 0, none⟩) 0 c).ownBlock) : Below w.heap.size w w' :=
  ⟨h.os, h.tape, h.output, Nat.le_trans (le_alloc w o) h.size, fun i hi => (h.block i (Nat.lt_of_lt_of_le hi (le_alloc w o)) (fun e => by simp [Value.ownBlock] at e; omega)).trans (Below.heap_alloc w o i hi)⟩

end Go.Proofs.Yteiiiapjloincaa
