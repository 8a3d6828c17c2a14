/-
  What CachePlays keeps: a cache, a zero one, and the document's list beside them.
-/
import Derived.Test.YteiiiapjloincaaRh9
import Derived.Test.YteiiiapjloincaaArg9
import Derived.Test.YteiiiapjloincaaRef5
namespace Go.Proofs.Yteiiiapjloincaa
open Go.ChangeShapes Go.WideShapes Go.ChangeAt Go.RowKit Go.Deep
set_option linter.unusedVariables false
set_option maxRecDepth 20000

theorem runs_grown {w w' : World} {g : Nat} {A : Option Addr} {l : List M.R} (h : Runs w A l) (ho : Off g A) (hg : w.grownBy w' (some g)) : Runs w' A l := fun hl => by
  obtain ⟨bl, o, e, hc⟩ := h hl
  have hne : bl ≠ g := ho _ e
  have k : ∀ j, bl < w.heap.size → w'.cell? ⟨bl, j, none⟩ = w.cell? ⟨bl, j, none⟩ := fun j hj => World.cell?_of_block (w := w) (a := ⟨bl, j, none⟩) (hg.block bl hj (fun e => hne (by injection e)))
  exact ⟨bl, o, e, fun i hi => ⟨(k _ (lt_of_cell (hc i hi).1)).trans (hc i hi).1, (k _ (lt_of_cell (hc i hi).2)).trans (hc i hi).2⟩⟩
structure Pl (w wr : World) (g gz : Nat) (A : Option Addr) (z cp : Nat) (l : List M.R) : Prop where
  kc : Kp w wr g (M.sel l)
  kz : Kp w wr gz M.empty
  ne : g ≠ gz
  rn : Runs wr A l
  zz : z = l.length
  zc : z ≤ cp
  og : Off g A
/-- An act in a variable. -/
structure Va (W : World) (vb d : Nat) (c p : Int) : Prop where
  c0 : W.cell? ⟨vb, 0, none⟩ = some (.int .u8 (d : Int))
  c1 : W.cell? ⟨vb, 1, none⟩ = some (.int .i64 c)
  c2 : W.cell? ⟨vb, 2, none⟩ = some (.int .i64 p)
section
variable {w wr w' : World} {g gz : Nat} {A A' : Option Addr} {z cp z' cp' : Nat} {l l' : List M.R} {vb d : Nat} {c p : Int}
theorem Va.keep (h : Va wr vb d c p) (hb : w'.heap[vb]? = wr.heap[vb]?) : Va w' vb d c p :=
  ⟨(World.cell?_of_block (w := wr) (a := ⟨vb, 0, none⟩) hb).trans h.c0, (World.cell?_of_block (w := wr) (a := ⟨vb, 1, none⟩) hb).trans h.c1, (World.cell?_of_block (w := wr) (a := ⟨vb, 2, none⟩) hb).trans h.c2⟩
theorem Va.below (h : Va wr vb d c p) (hb : Below wr.heap.size wr w') : Va w' vb d c p := h.keep (hb.block vb (lt_of_cell h.c0))
theorem Va.grown (h : Va wr vb d c p) (hb : wr.grownBy w' (some g)) (hne : vb ≠ g) : Va w' vb d c p := h.keep (hb.block vb (lt_of_cell h.c0) (fun e => hne (by injection e)))
theorem Va.new (w : World) (d : Nat) (c p : Int) (t : TypeId) : Va (w.alloc (.cells #[.int .u8 (d : Int), .int .i64 c, .int .i64 p] t)) w.heap.size d c p :=
  ⟨by rw [World.cell?_alloc_mark]; rfl, by rw [World.cell?_alloc_mark]; rfl, by rw [World.cell?_alloc_mark]; rfl⟩
theorem Pl.below (h : Pl w wr g gz A z cp l) (hb : Below wr.heap.size wr w') : Pl w w' g gz A z cp l := ⟨h.kc.below hb, h.kz.below hb, h.ne, h.rn.below hb, h.zz, h.zc, h.og⟩
/-- The document's list has turned, and then the cache. -/
theorem Pl.next {w1 : World} (h : Pl w wr g gz A z cp l) (hb : Below wr.heap.size wr w1) (hz : z' = l'.length) (hc : z' ≤ cp') (hr : Runs w1 A' l') (ho : ∀ g, g < wr.heap.size → Off g A → Off g A') (hk : Kp w w' g (M.sel l')) (hg : w1.grownBy w' (some g)) : Pl w w' g gz A' z' cp' l' :=
  have hog := ho g h.kc.has.lt h.og
  ⟨hk, (h.kz.below hb).other h.ne.symm h.kc.old hg, h.ne, runs_grown hr hog hg, hz, hc, hog⟩
theorem Pl.good (h : Pl w wr g gz A z cp l) : M.Good (M.sel l) := h.kc.has.good
end
theorem same_got (w : World) (A A' : Option Addr) (l : List M.R) (z c z' c' : Nat) (hz : z = l.length) (hz' : z' = l.length) (hA : Runs w A l) (hA' : Runs w A' l) (hl : z ≤ 9223372036854775807) :
    Calls Try.prog 19 #[.slice A z c, .slice A' z' c'] w fun e w' => e = .returned (.bool true) ∧ Below w.heap.size w w' := by
  refine (same_any w A A' l l z c z' c' hz hz' hA hA' hl).mono ?_
  rintro e w' ⟨rfl, hb⟩
  exact ⟨by simp, hb⟩
theorem zero_made (w : World) : IsC ((w.alloc (.cells (List.replicate 56 (Value.int .i64 0)).toArray 31)).setRow w.heap.size (List.replicate 56 (Value.int .i64 0)).toArray) w.heap.size M.empty ∧
    Below w.heap.size w ((w.alloc (.cells (List.replicate 56 (Value.int .i64 0)).toArray 31)).setRow w.heap.size (List.replicate 56 (Value.int .i64 0)).toArray) :=
  ⟨(IsC.new w).clear, below_setRow ((Below.refl _ _).alloc (Nat.le_refl _) _) (Nat.le_refl _) _⟩
end Go.Proofs.Yteiiiapjloincaa
