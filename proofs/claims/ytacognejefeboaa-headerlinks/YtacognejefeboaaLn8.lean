/-
  What HeaderLinks keeps: which pages were used, their order, and headers that lead from one to the other.
-/
import Derived.Test.YtacognejefeboaaL8
import Derived.Deep.AppendLies
namespace Go.Proofs.Ytacognejefeboaa
open Go.ChangeShapes Go.WideShapes Go.ChangeAt Go.RowKit Go.Deep
set_option linter.unusedVariables false
set_option maxRecDepth 20000

/-- A row of 256 bools that may be written. -/
structure BArr (w : World) (t : Nat) (f : Nat → Bool) : Prop where
  cells : ∀ j, j < 256 → w.cell? ⟨t, j, none⟩ = some (.bool (f j)) ∧ w.frozen? ⟨t, j, none⟩ = false
  past : ∀ j, 256 ≤ j → w.cell? ⟨t, j, none⟩ = none
section
variable {w w' : World} {t : Nat} {f : Nat → Bool}
theorem BArr.lt (h : BArr w t f) : t < w.heap.size := lt_of_cell (h.cells 0 (by omega)).1
theorem BArr.keep (h : BArr w t f) (hb : w'.heap[t]? = w.heap[t]?) : BArr w' t f :=
  ⟨fun j hj => ⟨(World.cell?_of_block (w := w) (a := ⟨t, j, none⟩) hb).trans (h.cells j hj).1, (World.frozen?_of_block (w := w) (a := ⟨t, j, none⟩) hb).trans (h.cells j hj).2⟩,
    fun j hj => (World.cell?_of_block (w := w) (a := ⟨t, j, none⟩) hb).trans (h.past j hj)⟩
theorem BArr.below (h : BArr w t f) (hb : Below w.heap.size w w') : BArr w' t f := h.keep (hb.block t h.lt)
theorem BArr.grown (h : BArr w t f) {g : Nat} (hg : w.grownBy w' (some g)) (hne : t ≠ g) : BArr w' t f := h.keep (hg.block t h.lt (fun e => hne (by injection e)))
theorem BArr.set (h : BArr w t f) (i : Nat) (hi : i < 256) (v : Bool) : BArr (w.setCell ⟨t, i, none⟩ (.bool v)) t (fun j => if j = i then v else f j) := by
  refine ⟨fun j hj => ⟨?_, by rw [World.frozen?_setCell]; exact (h.cells j hj).2⟩, fun j hj => ?_⟩
  · by_cases e : j = i
    · subst e
      rw [World.cell?_setCell_same _ _ _ (h.cells j hj).1]
      simp
    · rw [World.cell?_setCell_other w _ _ _ (fun h2 => e (by injection h2 with _ h3; exact h3.symm)), (h.cells j hj).1]
      simp [e]
  · rw [World.cell?_setCell_other w _ _ _ (fun h2 => by injection h2 with _ h3; omega)]
    exact h.past j hj
theorem BArr.same (h : BArr w t f) {f' : Nat → Bool} (e : ∀ j, j < 256 → f' j = f j) : BArr w t f' := ⟨fun j hj => by rw [e j hj]; exact h.cells j hj, h.past⟩
end
theorem make_bools (W : World) : (Instr.makeSlice 62 (.int .i64 256) (.int .i64 256)).run Try.prog W = .ok (.slice (some ⟨W.heap.size, 0, none⟩) 256 256) (W.alloc (.cells (madeCells #[.bool false] 256) 4)) :=
  run_make_row' 62 4 (.bool false) 1 Try.underlying62 (by kernel_rfl) rfl .i64 .i64 256 (by omega) (by omega) W
theorem bools_made (W : World) : BArr (W.alloc (.cells (madeCells #[.bool false] 256) 4)) W.heap.size (fun _ => false) := by
  have hl : (madeCells #[Value.bool false] 256).toList = List.replicate 256 (.bool false) := toList_madeCells_one _ _
  refine ⟨fun j hj => ⟨?_, ?_⟩, fun j hj => ?_⟩
  · rw [World.cell?_alloc_mark, ← Array.getElem?_toList, hl, List.getElem?_replicate, if_pos hj]
  · rw [World.frozen?_alloc_mark]
    simp
  · rw [World.cell?_alloc_mark, ← Array.getElem?_toList, hl, List.getElem?_replicate, if_neg (by omega)]


/-- The number that the header ahead of a place is told by. -/
def prevN (L : List Nat) : Nat → Nat
  | 0 => 0
  | j + 1 => L.getD j 0 + 1
theorem prevN_append (L : List Nat) (x j : Nat) (h : j ≤ L.length) : prevN (L ++ [x]) j = prevN L j := by
  cases j with
  | zero => rfl
  | succ j =>
    have : j < L.length := by omega
    simp [prevN, List.getD, List.getElem?_append_left this]
theorem prevN_last (L : List Nat) (x : Nat) : prevN (L ++ [x]) (L.length + 1) = x + 1 := by simp [prevN, List.getD]
theorem prevN_get (L : List Nat) (j : Nat) (h : j < L.length) : prevN L (j + 1) = L[j] + 1 := by simp [prevN, List.getD, h]
/-- Headers at pages, each of which leads to the one ahead of it. -/
def Ch (f : Nat → UInt8) (L : List Nat) : Prop := ∀ j (hj : j < L.length), L[j] < 256 ∧ ∃ o, Stands f L[j] 1 1 o (prevN L j)
theorem Ch.lt {f : Nat → UInt8} {L : List Nat} (h : Ch f L) {x : Nat} (hx : x ∈ L) : x < 256 := by
  obtain ⟨j, hj, rfl⟩ := List.getElem_of_mem hx
  exact (h j hj).1
theorem Ch.prev {f : Nat → UInt8} {L : List Nat} (h : Ch f L) (j : Nat) (hj : j ≤ L.length) : prevN L j ≤ 256 := by
  cases j with
  | zero => exact Nat.zero_le _
  | succ j =>
    rw [prevN_get L j (by omega)]
    have := (h j (by omega)).1
    omega
theorem Ch.step {f : Nat → UInt8} {L : List Nat} (h : Ch f L) (x o : Nat) (hx : x < 256) (hn : x ∉ L) (ho : o < 18446744073709551616) (xs : List UInt8) (hxs : xs.length ≤ 300) :
    Ch (M.wr (M.wr (M.wr f (x * 4096) (M.hd 1 1 o 0)) (x * 4096 + 24) (M.enc 8 (prevN L L.length))) (x * 4096 + 32) xs) (L ++ [x]) := fun j hj => by
  have hp := h.prev L.length (Nat.le_refl _)
  rcases Nat.lt_or_ge j L.length with h1 | h1
  · rw [List.getElem_append_left h1, prevN_append L x j (by omega)]
    obtain ⟨h2, o', st⟩ := h j h1
    have hne : L[j] ≠ x := fun e => hn (e ▸ List.getElem_mem h1)
    exact ⟨h2, o', ((st.apart _ _ (by rw [M.hd_length]; omega)).apart _ _ (by rw [M.enc_length]; omega)).apart _ _ (by omega)⟩
  · have e : j = L.length := by simp at hj; omega
    subst e
    rw [List.getElem_append_right (by omega), prevN_append L x _ (Nat.le_refl _)]
    simp only [Nat.sub_self, List.getElem_cons_zero]
    exact ⟨hx, o, ((Stands.written f x 1 1 o 0 (by decide) ho (by omega)).linked _ (by omega)).apart _ _ (Or.inl (by omega))⟩

section
variable {w w' : World} {base : Nat} {e : TypeId} {size : Nat} {v : Value} {n : Nat} {xs : List Value}
theorem row_keep (h : w.ownsRow base e size v n xs) (hk : ∀ g, v.ownBlock = some g → w'.heap[g]? = w.heap[g]?) : w'.ownsRow base e size v n xs := by
  obtain ⟨hl, h⟩ := h
  refine ⟨hl, ?_⟩
  rcases h with h | ⟨g, cap, cur, rfl, hb, hg, r⟩
  · exact Or.inl h
  · exact Or.inr ⟨g, cap, cur, rfl, hb, (hk g rfl).trans hg, r⟩
theorem row_lt (h : w.ownsRow base e size v n xs) (g : Nat) (hg : v.ownBlock = some g) : g < w.heap.size ∧ base ≤ g := by
  obtain ⟨hl, h⟩ := h
  rcases h with ⟨rfl, _⟩ | ⟨g', cap, cur, rfl, hb, hg', r⟩
  · cases hg
  · injection hg with hg
    subst hg
    refine ⟨?_, hb⟩
    rcases Nat.lt_or_ge g' w.heap.size with h1 | h1
    · exact h1
    · rw [Array.getElem?_eq_none h1] at hg'; cases hg'
theorem row_cell (h : w.ownsRow base e 1 v n xs) (j : Nat) (hj : j < n) : ∃ g cap, v = .slice (some ⟨g, 0, none⟩) n cap ∧ w.cell? ⟨g, j, none⟩ = xs[j]? := by
  obtain ⟨hl, h⟩ := h
  rcases h with ⟨rfl, rfl⟩ | ⟨g, cap, cur, rfl, hb, hg, h1, h2, h3, h4⟩
  · omega
  · refine ⟨g, cap, rfl, ?_⟩
    unfold World.cell?
    rw [hg, ← h4, Nat.mul_one, List.getElem?_take_of_lt hj]
    simp
theorem row_form (h : w.ownsRow base e size v n xs) : ∃ A cap, v = .slice A n cap := by
  obtain ⟨hl, h⟩ := h
  rcases h with ⟨rfl, rfl⟩ | ⟨g', cap, cur, rfl, hb, hg', r⟩
  · exact ⟨_, _, rfl⟩
  · exact ⟨_, _, rfl⟩
end
def ints (L : List Nat) : List Value := L.map fun (n : Nat) => .int .i64 (n : Int)
/-- The two rows beside a space. -/
structure Side (w1 w : World) (gu : Nat) (v : Value) (L : List Nat) (O : Nat → Prop) : Prop where
  us : BArr w gu (fun j => decide (j ∈ L))
  row : w.ownsRow w1.heap.size 3 1 v L.length (ints L)
  nu : ¬ O gu
  gl : w1.heap.size ≤ gu
  nv : ∀ g, v.ownBlock = some g → ¬ O g ∧ g ≠ gu
section
variable {w1 w w' : World} {gu s P T : Nat} {v : Value} {L : List Nat} {O : Nat → Prop} {f : Nat → UInt8}
theorem Side.kept (h : Side w1 w gu v L O) (k : Kept w w' O) : Side w1 w' gu v L (Wid O w w') :=
  ⟨h.us.keep (k.block gu h.us.lt h.nu), row_keep h.row (fun g hg => k.block g (row_lt h.row g hg).1 (h.nv g hg).1), fun e => e.elim h.nu (fun e => by have := h.us.lt; omega), h.gl,
    fun g hg => ⟨fun e => e.elim (h.nv g hg).1 (fun e => by have := (row_lt h.row g hg).1; omega), (h.nv g hg).2⟩⟩
theorem Side.keptO (h : Side w1 w gu v L O) (k : Kept w w' O) : Side w1 w' gu v L O :=
  ⟨h.us.keep (k.block gu h.us.lt h.nu), row_keep h.row (fun g hg => k.block g (row_lt h.row g hg).1 (h.nv g hg).1), h.nu, h.gl, h.nv⟩
/-- A page is used, and not yet among the others. -/
structure Mid (w1 w : World) (gu : Nat) (v : Value) (L : List Nat) (x : Nat) (O : Nat → Prop) : Prop where
  us : BArr w gu (fun j => decide (j ∈ L ++ [x]))
  row : w.ownsRow w1.heap.size 3 1 v L.length (ints L)
  nu : ¬ O gu
  gl : w1.heap.size ≤ gu
  nv : ∀ g, v.ownBlock = some g → ¬ O g ∧ g ≠ gu
theorem Mid.kept {x : Nat} (h : Mid w1 w gu v L x O) (k : Kept w w' O) : Mid w1 w' gu v L x (Wid O w w') :=
  ⟨h.us.keep (k.block gu h.us.lt h.nu), row_keep h.row (fun g hg => k.block g (row_lt h.row g hg).1 (h.nv g hg).1), fun e => e.elim h.nu (fun e => by have := h.us.lt; omega), h.gl,
    fun g hg => ⟨fun e => e.elim (h.nv g hg).1 (fun e => by have := (row_lt h.row g hg).1; omega), (h.nv g hg).2⟩⟩
theorem Mid.below {x : Nat} (h : Mid w1 w gu v L x O) (hb : Below w.heap.size w w') : Mid w1 w' gu v L x O :=
  ⟨h.us.below hb, row_keep h.row (fun g hg => hb.block g (row_lt h.row g hg).1), h.nu, h.gl, h.nv⟩
theorem Side.use (h : Side w1 w gu v L O) (A : At w1 w s P T f O) (x : Nat) (hx : x < 256) :
    At w1 (w.setCell ⟨gu, x, none⟩ (.bool true)) s P T f O ∧ Mid w1 (w.setCell ⟨gu, x, none⟩ (.bool true)) gu v L x O := by
  have kk := (Kept.refl w (fun c => c = gu)).setCell (p := ⟨gu, x, none⟩) (fun _ => rfl) (.bool true)
  refine ⟨A.other kk (fun c hc e => h.nu (e ▸ hc)) (A.bel.trans (kk.below A.bel.size (fun i e => by have := h.gl; omega))), (h.us.set x hx true).same (fun j _ => ?_), row_keep h.row (fun g hg => kk.block g (row_lt h.row g hg).1 (h.nv g hg).2), h.nu, h.gl, h.nv⟩
  by_cases e : j = x
  · subst e; simp
  · simp [e]
/-- A page is put behind the others. -/
theorem Mid.push {g cap x ll : Nat} {w2 : World} (h : Mid w1 w gu v L x O) (A : At w1 w s P T f O) (hll : ll = L.length)
    (hrow : w2.ownsRow w1.heap.size 3 1 (.slice (some ⟨g, 0, none⟩) (ll + 1) cap) (ll + 1) (ints L ++ ints [x])) (hgr : w.grownBy w2 v.ownBlock) (hat : v.ownBlock = some g ∨ g = w.heap.size) :
    At w1 w2 s P T f O ∧ Side w1 w2 gu (.slice (some ⟨g, 0, none⟩) (ll + 1) cap) (L ++ [x]) O := by
  subst hll
  have kk : Kept w w2 (fun c => v.ownBlock = some c) := (Kept.refl w _).grown hgr (fun b hb _ => hb)
  refine ⟨A.other kk (fun c hc e => (h.nv c e).1 hc) (A.bel.trans (kk.below A.bel.size (fun i e => (row_lt h.row i e).2))), h.us.keep (kk.block gu h.us.lt (fun e => (h.nv gu e).2 rfl)), ?_, h.nu, h.gl, fun c hc => ?_⟩
  · have e : ints (L ++ [x]) = ints L ++ ints [x] := by simp [ints]
    rw [e, List.length_append]
    exact hrow
  · have hc : g = c := by injection hc
    subst hc
    rcases hat with h1 | h1
    · exact h.nv g h1
    · have h2 := h.us.lt
      exact ⟨fun e => by have := A.sp.lt e; omega, by omega⟩
end
theorem info_int : ∃ i : TypeInfo, Try.prog.info? 3 = some i ∧ i.zero = some (.int .i64 0) ∧ i.size = 1 ∧ i.bytes = 8 := by
  obtain ⟨i0, hi0, hz0, hz1, hz2⟩ := info_parts (P := Try.prog) (e := 3) (z := .int .i64 0) (size := 1) (bytes := 8) (by kernel_rfl)
  exact ⟨i0, hi0, hz0, hz1, hz2⟩
end Go.Proofs.Ytacognejefeboaa
