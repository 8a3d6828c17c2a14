/-
  What follows for RunsDrain; rows of integers.
-/
import Derived.Test.YtbmibggjdilhkaaLaw5
namespace Go.Proofs.Ytbmibggjdilhkaa
open Go.ChangeShapes Go.WideShapes Go.ChangeAt Go.RowKit Go.Deep
set_option linter.unusedVariables false
set_option maxRecDepth 20000

theorem drain_take {l : List M.R} (hok : M.Ok (-1) 1073741824 l) (h : 0 < M.total l) : takeB l 1 = true := by
  rcases Bool.eq_false_or_eq_true (takeB l 1) with h1 | h1
  · exact h1
  · exfalso
    have := (take_none h1).2.2
    cases l with
    | nil => rw [M.total_nil] at h; omega
    | cons r l =>
      rcases this with h2 | h2
      · omega
      · have := h2 r (List.mem_cons_self ..)
        have := hok.2.2.1
        omega
/-- A page is taken: what is left, and that it was there. -/
theorem drain_step {l : List M.R} (hok : M.Ok (-1) 1073741824 l) (h : takeB l 1 = true) :
    M.Ok (-1) 1073741824 (takeL l 1) ∧ M.total (takeL l 1) = M.total l - 1 ∧ M.Pg l (takeP l 1) ∧ ¬ M.Pg (takeL l 1) (takeP l 1) ∧ (∀ x, M.Pg (takeL l 1) x → M.Pg l x) ∧ 0 ≤ takeP l 1 ∧ takeP l 1 ≤ 1073741824 ∧
    ∃ (k : Nat) (hk : k < l.length), M.best 1 l = k ∧ l[k].p = takeP l 1 := by
  obtain ⟨k, hk, hb, h1, h2, eP, eL⟩ := taken h
  have hl := M.left_ok hok k hk 1 (by omega) h2
  have hm := hok.mem _ (M.getD_mem l k hk)
  rw [← eL, ← eP] at hl
  rw [← eP] at hm
  refine ⟨hl.1, hl.2.1, (hl.2.2.1 _).2 (.inr ⟨by omega, by omega⟩), fun hx => hl.2.2.2 _ hx ⟨by omega, by omega⟩, fun x hx => (hl.2.2.1 x).2 (.inl hx), hm.2.1, by omega, k, hk, hb, ?_⟩
  rw [eP, M.getD_at l k hk]
theorem drain_end {l : List M.R} (hok : M.Ok (-1) 1073741824 l) (h : M.total l = 0) : l = [] := by
  rcases Classical.em (l = []) with h1 | h1
  · exact h1
  · have := M.total_pos hok h1
    omega

def ints (ps : List Int) : List Value := ps.map fun p => .int .i64 p
theorem ints_one (ps : List Int) : ∀ u ∈ ints ps, u.oneCell' = true := fun u hu => by
  obtain ⟨p, _, rfl⟩ := List.mem_map.1 hu
  rfl
theorem ints_at (ps : List Int) (k : Nat) (h : k < ps.length) : (ints ps)[k]? = some (.int .i64 ps[k]) := by simp [ints, h]
theorem owns_keep {w w' : World} {B : Nat} {e : TypeId} {size n : Nat} {v : Value} {xs : List Value} (h : w.ownsRow B e size v n xs) (hb : ∀ g, g < w.heap.size → w'.heap[g]? = w.heap[g]?) : w'.ownsRow B e size v n xs := by
  refine ⟨h.1, ?_⟩
  rcases h.2 with h1 | ⟨g, cap, cur, h1, h2, h3, h4⟩
  · exact .inl h1
  · exact .inr ⟨g, cap, cur, h1, h2, (hb g (Array.getElem?_eq_some_iff.1 h3).1).trans h3, h4⟩
theorem info3 : ∃ i, Try.prog.info? 3 = some i ∧ i.zero = some (.int .i64 0) ∧ i.size = 1 ∧ i.bytes = 8 := ⟨_, by rfl, by rfl, by rfl, by rfl⟩
/-- A row of integers of one's own, from the head of a block. -/
def IsInts (w : World) (B g c : Nat) (ps : List Int) : Prop := w.ownsRow B 3 1 (.slice (some ⟨g, 0, none⟩) ps.length c) ps.length (ints ps)
theorem IsInts.cell {w : World} {B g c : Nat} {ps : List Int} (h : IsInts w B g c ps) (k : Nat) (hk : k < ps.length) : w.cell? ⟨g, k, none⟩ = some (.int .i64 ps[k]) := by
  have := h.cells (g := g) rfl k _ (ints_at ps k hk)
  rwa [Addr.add_lit, Nat.zero_add] at this
theorem IsInts.below {w w' : World} {B g c : Nat} {ps : List Int} (h : IsInts w B g c ps) (hb : Below w.heap.size w w') : IsInts w' B g c ps := owns_keep h hb.block
theorem make_ints (W : World) : (Instr.makeSlice 39 (.int .i64 0) (.int .i64 0)).run Try.prog W = .ok (.slice (some ⟨W.heap.size, 0, none⟩) 0 0) (W.alloc (.cells (madeCells #[.int .i64 0] 0) 3)) :=
  run_make_row' 39 3 (.int .i64 0) 8 Try.underlying39 (by kernel_rfl) rfl .i64 .i64 0 (by omega) (by omega) W
theorem ints_made (W : World) (B : Nat) (hB : B ≤ W.heap.size) : IsInts (W.alloc (.cells (madeCells #[.int .i64 0] 0) 3)) B W.heap.size 0 [] := by
  refine ⟨rfl, .inr ⟨W.heap.size, 0, madeCells #[.int .i64 0] 0, rfl, hB, ?_, Nat.le_refl _, by unfold maxLen; omega, by rw [← Array.length_toList, toList_madeCells_one]; rfl, rfl⟩⟩
  unfold World.alloc
  simp
/-- A number is appended. -/
theorem ints_snoc {w W w' : World} {B t g c g1 c1 : Nat} {ps : List Int} {p : Int} {o : Obj} (ht : t = ps.length) (hi : IsInts W B g c ps) (hb : Below B w W) (hB : B ≤ W.heap.size)
    (hrow : w'.ownsRow B 3 1 (.slice (some ⟨g1, 0, none⟩) (t + 1) c1) (t + 1) (ints ps ++ ints [p])) (hgr : (W.alloc o).grownBy w' (Value.slice (some ⟨g, 0, none⟩) t c).ownBlock) : IsInts w' B g1 c1 (ps ++ [p]) ∧ Below B w w' ∧ (∀ b, b < W.heap.size → b ≠ g → w'.heap[b]? = W.heap[b]?) := by
  subst ht
  have hlow : B ≤ g := (World.ownsRow.lt hi g rfl).1
  refine ⟨?_, (hb.alloc hB o).grown hgr (Nat.le_trans hB (le_alloc _ _)) (fun k hk => by simp [Value.ownBlock] at hk; omega), fun b hb2 hne => (hgr.block b (Nat.lt_of_lt_of_le hb2 (le_alloc _ _)) (fun e => by simp [Value.ownBlock] at e; exact hne e)).trans (Below.heap_alloc W o b hb2)⟩
  unfold IsInts
  rw [List.length_append]
  rw [show ints (ps ++ [p]) = ints ps ++ ints [p] by simp [ints]]
  exact hrow
theorem num_cells (w : World) (p : Int) : ∀ j u, (ints [p])[j]? = some u → (w.alloc (.cells #[.int .i64 p] 3)).cell? ((⟨w.heap.size, 0, none⟩ : Addr).add j) = some u := fun j u hu => by
  rw [Addr.add_lit, Nat.zero_add, World.cell?_alloc_mark]
  simpa [ints] using hu
theorem ints_owns {w : World} {B g c t : Nat} {ps : List Int} (h : IsInts w B g c ps) (ht : t = ps.length) (o : Obj) : (w.alloc o).ownsRow B 3 1 (.slice (some ⟨g, 0, none⟩) t c) t (ints ps) := by
  subst ht
  exact owns_keep h (Below.heap_alloc w o)
theorem Runs.keep2 {w w' : World} {A : Option Addr} {l : List M.R} {B g : Nat} (h : Runs w A l) (hA : 0 < l.length → ∀ b, A = some b → b.block ≠ g) (hb : ∀ b, b < w.heap.size → b ≠ g → w'.heap[b]? = w.heap[b]?) : Runs w' A l := fun hn => by
  obtain ⟨bl, o, e, hc⟩ := h hn
  have hne := hA hn _ e
  exact ⟨bl, o, e, fun i hi => ⟨(World.cell?_of_block (w := w) (a := ⟨bl, o + i * 2, none⟩) (hb bl (lt_of_cell (hc i hi).1) hne)).trans (hc i hi).1, (World.cell?_of_block (w := w) (a := ⟨bl, o + i * 2 + 1, none⟩) (hb bl (lt_of_cell (hc i hi).2) hne)).trans (hc i hi).2⟩⟩
end Go.Proofs.Ytbmibggjdilhkaa
