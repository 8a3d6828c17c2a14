/-
  Runs in memory; the small functions: fits, end, some, rest, joined.
-/
import Derived.Test.YteiiiapjloincaaM5b
import Derived.Deep.Slices
import Derived.Deep.Fields
import Derived.Deep.AppendLies
import Derived.Deep.Upon
import Derived.Laws.IdiomCopy
import Derived.Lib.SliceRun
namespace Go.Proofs.Yteiiiapjloincaa
open Go.ChangeShapes Go.WideShapes Go.ChangeAt Go.RowKit Go.Deep
set_option linter.unusedVariables false
set_option maxRecDepth 20000

def runV (p n : Int) : Value := .agg #[.int .i64 p, .int .i64 n]
/-- A list of runs at a slice's address. -/
def Runs (w : World) (A : Option Addr) (l : List M.R) : Prop := 0 < l.length → ∃ bl o, A = some ⟨bl, o, none⟩ ∧ ∀ i (h : i < l.length), w.cell? ⟨bl, o + i * 2, none⟩ = some (.int .i64 l[i].p) ∧ w.cell? ⟨bl, o + i * 2 + 1, none⟩ = some (.int .i64 l[i].n)
section
variable {w w' : World} {A : Option Addr} {l : List M.R}
theorem Runs.keep (h : Runs w A l) (hb : ∀ p : Addr, p.block < w.heap.size → w'.cell? p = w.cell? p) : Runs w' A l := fun hn => by
  obtain ⟨bl, o, e, hc⟩ := h hn
  exact ⟨bl, o, e, fun i hi => ⟨(hb _ (lt_of_cell (hc i hi).1)).trans (hc i hi).1, (hb _ (lt_of_cell (hc i hi).2)).trans (hc i hi).2⟩⟩
theorem Runs.below (h : Runs w A l) (hb : Below w.heap.size w w') : Runs w' A l := h.keep fun _ hp => hb.cell hp
theorem Runs.alloc (h : Runs w A l) (o : Obj) : Runs (w.alloc o) A l := h.keep fun p hp => World.cell?_alloc_lt w o p hp
theorem Runs.drew (h : Runs w A l) : Runs w.drew A l := h
theorem Runs.drewN (h : Runs w A l) (n : Nat) : Runs (w.drewN n) A l := h
theorem Runs.nil : Runs w A [] := fun h => absurd h (by simp)
end

def fitsB (p n N : Int) : Bool := decide (0 ≤ p) && (decide (1 ≤ n) && decide (p + n ≤ N))
theorem fitsB_iff (p n N : Int) : fitsB p n N = true ↔ 0 ≤ p ∧ 1 ≤ n ∧ p + n ≤ N := by simp [fitsB]

/-- A variable that holds a run. -/
structure Box (w : World) (g : Nat) (p n : Int) : Prop where
  c0 : w.cell? ⟨g, 0, none⟩ = some (.int .i64 p)
  c1 : w.cell? ⟨g, 1, none⟩ = some (.int .i64 n)
  f0 : w.frozen? ⟨g, 0, none⟩ = false
  f1 : w.frozen? ⟨g, 1, none⟩ = false
section
variable {w w' : World} {g : Nat} {p n : Int}
theorem Box.lt (h : Box w g p n) : g < w.heap.size := lt_of_cell h.c0
theorem Box.keep (h : Box w g p n) (hb : w'.heap[g]? = w.heap[g]?) : Box w' g p n :=
  ⟨(World.cell?_of_block (w := w) (a := ⟨g, 0, none⟩) hb).trans h.c0, (World.cell?_of_block (w := w) (a := ⟨g, 1, none⟩) hb).trans h.c1, (World.frozen?_of_block (w := w) (a := ⟨g, 0, none⟩) hb).trans h.f0, (World.frozen?_of_block (w := w) (a := ⟨g, 1, none⟩) hb).trans h.f1⟩
theorem Box.below (h : Box w g p n) (hb : Below w.heap.size w w') : Box w' g p n := h.keep (hb.block g h.lt)
theorem Box.alloc (h : Box w g p n) (o : Obj) : Box (w.alloc o) g p n := h.keep (Below.heap_alloc w o g h.lt)
theorem Box.drew (h : Box w g p n) : Box w.drew g p n := ⟨h.c0, h.c1, h.f0, h.f1⟩
theorem Box.drewN (h : Box w g p n) (k : Nat) : Box (w.drewN k) g p n := ⟨h.c0, h.c1, h.f0, h.f1⟩
theorem Box.new (w : World) (t : TypeId) (p n : Int) : Box (w.alloc (.cells #[.int .i64 p, .int .i64 n] t)) w.heap.size p n :=
  ⟨by rw [World.cell?_alloc_mark]; rfl, by rw [World.cell?_alloc_mark]; rfl, by rw [World.frozen?_alloc_mark]; simp, by rw [World.frozen?_alloc_mark]; simp⟩
theorem Box.set (h : Box w g p n) (q m : Int) : Box ((w.setCell ⟨g, 0, none⟩ (.int .i64 q)).setCell ⟨g, 1, none⟩ (.int .i64 m)) g q m := by
  refine ⟨?_, ?_, ?_, ?_⟩
  · rw [World.cell?_setCell_other _ _ _ _ (by simp)]
    exact World.cell?_setCell_same _ _ _ h.c0
  · refine World.cell?_setCell_same _ _ _ (show World.cell? _ _ = some (.int .i64 n) from ?_)
    rw [World.cell?_setCell_other _ _ _ _ (by simp)]
    exact h.c1
  · rw [World.frozen?_setCell, World.frozen?_setCell]; exact h.f0
  · rw [World.frozen?_setCell, World.frozen?_setCell]; exact h.f1
theorem below_set {B : Nat} {a : World} (h : Below B a w) (hg : B ≤ g) (v u : Value) : Below B a ((w.setCell ⟨g, 0, none⟩ v).setCell ⟨g, 1, none⟩ u) := (h.setCell (p := ⟨g, 0, none⟩) hg v).setCell (p := ⟨g, 1, none⟩) hg u
end
end Go.Proofs.Yteiiiapjloincaa
