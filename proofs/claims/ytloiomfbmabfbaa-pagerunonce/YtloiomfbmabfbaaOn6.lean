/-
  What PagerunOnce keeps: a row of bools, one for each page.
-/
import Derived.Test.YtloiomfbmabfbaaArg6
namespace Go.Proofs.Ytloiomfbmabfbaa
open Go.ChangeShapes Go.WideShapes Go.ChangeAt Go.RowKit Go.Deep
set_option linter.unusedVariables false
set_option maxRecDepth 20000

/-- A row of 256 bools that may be written. -/
structure BArr (w : World) (t : Nat) (f : Nat → Bool) : Prop where
  cells : ∀ j, j < 256 → w.cell? ⟨t, j, none⟩ = some (.bool (f j)) ∧ w.frozen? ⟨t, j, none⟩ = false
  past : ∀ j, 256 ≤ j → w.cell? ⟨t, j, none⟩ = none
section
variable {w w' : World} {t : Nat} {f : Nat → Bool}
theorem BArr.lt (h : BArr w t f) : t < w.heap.size := lt_of_cell (h.cells 0 (by omega)).1
theorem BArr.keep (h : BArr w t f) (hb : w'.heap[t]? = w.heap[t]?) : BArr w' t f :=
  ⟨fun j hj => ⟨(World.cell?_of_block (w := w) (a := ⟨t, j, none⟩) hb).trans (h.cells j hj).1, (World.frozen?_of_block (w := w) (a := ⟨t, j, none⟩) hb).trans (h.cells j hj).2⟩,
    fun j hj => (World.cell?_of_block (w := w) (a := ⟨t, j, none⟩) hb).trans (h.past j hj)⟩
theorem BArr.below (h : BArr w t f) (hb : Below w.heap.size w w') : BArr w' t f := h.keep (hb.block t h.lt)
theorem BArr.grown (h : BArr w t f) {g : Nat} (hg : w.grownBy w' (some g)) (hne : t ≠ g) : BArr w' t f := h.keep (hg.block t h.lt (fun e => hne (by injection e)))
theorem BArr.set (h : BArr w t f) (i : Nat) (hi : i < 256) (v : Bool) : BArr (w.setCell ⟨t, i, none⟩ (.bool v)) t (fun j => if j = i then v else f j) := by
  refine ⟨fun j hj => ⟨?_, by rw [World.frozen?_setCell]; exact (h.cells j hj).2⟩, fun j hj => ?_⟩
  · by_cases e : j = i
    · subst e
      rw [World.cell?_setCell_same _ _ _ (h.cells j hj).1]
      simp
    · rw [World.cell?_setCell_other w _ _ _ (fun h2 => e (by injection h2 with _ h3; exact h3.symm)), (h.cells j hj).1]
      simp [e]
  · rw [World.cell?_setCell_other w _ _ _ (fun h2 => by injection h2 with _ h3; omega)]
    exact h.past j hj
theorem BArr.same (h : BArr w t f) {f' : Nat → Bool} (e : ∀ j, j < 256 → f' j = f j) : BArr w t f' := ⟨fun j hj => by rw [e j hj]; exact h.cells j hj, h.past⟩
/-- No run lies in the row. -/
theorem BArr.runs (h : BArr w t f) {A : Option Addr} {l : List M.R} (hr : Runs w A l) (i : Nat) (v : Value) : Runs (w.setCell ⟨t, i, none⟩ v) A l := fun hl => by
  obtain ⟨bl, o, rfl, hc⟩ := hr hl
  have hne : bl ≠ t := fun e => by
    subst e
    have h0 := (hc 0 hl).1
    simp only [Nat.zero_mul, Nat.add_zero] at h0
    rcases Nat.lt_or_ge o 256 with ho | ho
    · rw [(h.cells o ho).1] at h0; cases h0
    · rw [h.past o ho] at h0; cases h0
  have k : ∀ j, (w.setCell ⟨t, i, none⟩ v).cell? ⟨bl, j, none⟩ = w.cell? ⟨bl, j, none⟩ := fun j => World.cell?_setCell_other w _ _ _ (fun h2 => hne (by injection h2 with h3; exact h3.symm))
  exact ⟨bl, o, rfl, fun i hi => ⟨(k _).trans (hc i hi).1, (k _).trans (hc i hi).2⟩⟩
theorem BArr.std (h : BArr w t f) {w0 : World} {g : Nat} {P : Int} {l : List M.R} {T : Int} {k : Nat} (hs : Std w0 w g P l T k) (hne : t ≠ g) (ht : w0.heap.size ≤ t) (i : Nat) (v : Value) : Std w0 (w.setCell ⟨t, i, none⟩ v) g P l T k := by
  obtain ⟨A, z, c, hal, hz, hr⟩ := hs.has
  exact ⟨⟨A, z, c, hal.keep (Below.heap_setCell w _ v g (fun e => hne e.symm)), hz, h.runs hr i v⟩, hs.fit, hs.bel.setCell (p := ⟨t, i, none⟩) ht v, hs.old, hs.p1, hs.p2⟩
end
theorem make_bools (W : World) : (Instr.makeSlice 46 (.int .i64 256) (.int .i64 256)).run Try.prog W = .ok (.slice (some ⟨W.heap.size, 0, none⟩) 256 256) (W.alloc (.cells (madeCells #[.bool false] 256) 4)) :=
  run_make_row' 46 4 (.bool false) 1 Try.underlying46 (by kernel_rfl) rfl .i64 .i64 256 (by omega) (by omega) W
theorem bools_made (W : World) : BArr (W.alloc (.cells (madeCells #[.bool false] 256) 4)) W.heap.size (fun _ => false) := by
  have hl : (madeCells #[Value.bool false] 256).toList = List.replicate 256 (.bool false) := toList_madeCells_one _ _
  refine ⟨fun j hj => ⟨?_, ?_⟩, fun j hj => ?_⟩
  · rw [World.cell?_alloc_mark, ← Array.getElem?_toList, hl, List.getElem?_replicate, if_pos hj]
  · rw [World.frozen?_alloc_mark]
    simp
  · rw [World.cell?_alloc_mark, ← Array.getElem?_toList, hl, List.getElem?_replicate, if_neg (by omega)]

/-- Pages from a on, q of them, are marked so. -/
def upd (f : Nat → Bool) (a q : Nat) (v : Bool) : Nat → Bool := fun j => if a ≤ j ∧ j < a + q then v else f j
theorem upd_zero (f : Nat → Bool) (a : Nat) (v : Bool) : upd f a 0 v = f := by
  funext j
  unfold upd
  rw [if_neg (by omega)]
theorem upd_succ (f : Nat → Bool) (a q : Nat) (v : Bool) : upd f a (q + 1) v = fun j => if j = a + q then v else upd f a q v j := by
  funext j
  unfold upd
  by_cases h1 : j = a + q
  · rw [if_pos (by omega), if_pos h1]
  · rw [if_neg h1]
    by_cases h2 : a ≤ j ∧ j < a + q
    · rw [if_pos h2, if_pos (by omega)]
    · rw [if_neg h2, if_neg (by omega)]
theorem upd_at (f : Nat → Bool) (a q : Nat) (v : Bool) : upd f a q v (a + q) = f (a + q) := by
  unfold upd
  rw [if_neg (by omega)]
/-- A page is marked just if it is taken. -/
def Mk (P : Int) (l : List M.R) (f : Nat → Bool) : Prop := ∀ j : Nat, f j = true ↔ ((j : Int) < P ∧ ¬ M.Pg l j)
theorem Mk.new (P : Int) : Mk P [⟨0, P⟩] (fun _ => false) := fun j => by
  constructor
  · intro h; cases h
  · rintro ⟨h1, h2⟩
    exact absurd ⟨_, List.mem_singleton.2 rfl, by simp, by simpa using h1⟩ h2
theorem Mk.give {P : Int} {l : List M.R} {f : Nat → Bool} (h : Mk P l f) (hok : M.Ok (-1) P l) {p n : Int} (hb : giveB l P p n = true) (a q : Nat) (ha : (a : Int) = p) (hq : (q : Int) = n) :
    Mk P (giveL l P p n) (upd f a q false) ∧ ∀ i, i < q → f (a + i) = true := by
  have hg := give_step hok hb
  refine ⟨fun j => ?_, fun i hi => (h _).2 ⟨by omega, hg.2.2.2.1 _ (by omega) (by omega)⟩⟩
  unfold upd
  by_cases h1 : a ≤ j ∧ j < a + q
  · rw [if_pos h1]
    constructor
    · intro h; cases h
    · rintro ⟨h2, h3⟩
      exact absurd ((hg.2.2.1 j).2 (.inr (by omega))) h3
  · rw [if_neg h1, h j, hg.2.2.1 j]
    constructor
    · rintro ⟨h2, h3⟩
      exact ⟨h2, fun h4 => h4.elim h3 (fun h5 => h1 (by omega))⟩
    · rintro ⟨h2, h3⟩
      exact ⟨h2, fun h4 => h3 (.inl h4)⟩
theorem Mk.take {P : Int} {l : List M.R} {f : Nat → Bool} (h : Mk P l f) (hok : M.Ok (-1) P l) {n : Int} (hb : takeB l n = true) (a q : Nat) (ha : (a : Int) = takeP l n) (hq : (q : Int) = n) :
    Mk P (takeL l n) (upd f a q true) ∧ ∀ i, i < q → f (a + i) = false := by
  have hg := take_step hok hb
  refine ⟨fun j => ?_, fun i hi => ?_⟩
  · unfold upd
    by_cases h1 : a ≤ j ∧ j < a + q
    · rw [if_pos h1]
      refine ⟨fun _ => ⟨by omega, fun h2 => ((hg.2.2.1 j).1 h2).2 (by omega)⟩, fun _ => rfl⟩
    · rw [if_neg h1, h j, hg.2.2.1 j]
      constructor
      · rintro ⟨h2, h3⟩
        exact ⟨h2, fun h4 => h3 h4.1⟩
      · rintro ⟨h2, h3⟩
        exact ⟨h2, fun h4 => h3 ⟨h4, fun h5 => h1 (by omega)⟩⟩
  · rw [← Bool.not_eq_true, h]
    rintro ⟨_, h2⟩
    exact h2 (hg.2.2.2.1 _ (by omega) (by omega))
end Go.Proofs.Ytloiomfbmabfbaa
