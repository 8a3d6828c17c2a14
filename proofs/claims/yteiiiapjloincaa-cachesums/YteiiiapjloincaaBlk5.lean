/-
  A block of runs that may be written: copy, clear and append upon it.
-/
import Derived.Test.YteiiiapjloincaaCon6
import Derived.Laws.CopyRow
import Derived.Lib.AppendZerosOnto
import Derived.Lib.Overlaps
namespace Go.Proofs.Yteiiiapjloincaa
open Go.ChangeShapes Go.WideShapes Go.ChangeAt Go.RowKit Go.Deep
set_option linter.unusedVariables false
set_option maxRecDepth 20000

def rc (l : List M.R) : List Value := l.flatMap fun r => [.int .i64 r.p, .int .i64 r.n]
theorem rc_nil : rc [] = [] := rfl
theorem rc_cons (r : M.R) (l : List M.R) : rc (r :: l) = .int .i64 r.p :: .int .i64 r.n :: rc l := rfl
theorem rc_append (l m : List M.R) : rc (l ++ m) = rc l ++ rc m := by simp [rc]
theorem rc_length (l : List M.R) : (rc l).length = l.length * 2 := by
  induction l with
  | nil => rfl
  | cons r l ih => rw [rc_cons]; simp only [List.length_cons, ih]; omega
theorem rc_take (l : List M.R) : ∀ k, rc (l.take k) = (rc l).take (k * 2) := by
  induction l with
  | nil => intro k; simp [rc_nil]
  | cons r l ih =>
    intro k
    cases k with
    | zero => simp [rc_nil]
    | succ k => rw [List.take_succ_cons, rc_cons, rc_cons, ih, show (k + 1) * 2 = k * 2 + 1 + 1 by omega, List.take_succ_cons, List.take_succ_cons]
theorem rc_drop (l : List M.R) : ∀ k, rc (l.drop k) = (rc l).drop (k * 2) := by
  induction l with
  | nil => intro k; simp [rc_nil]
  | cons r l ih =>
    intro k
    cases k with
    | zero => simp
    | succ k => rw [List.drop_succ_cons, rc_cons, ih, show (k + 1) * 2 = k * 2 + 1 + 1 by omega, List.drop_succ_cons, List.drop_succ_cons]
theorem rc_one (l : List M.R) : ∀ u ∈ rc l, u.oneCell' = true := by
  intro u hu
  unfold rc at hu
  obtain ⟨r, _, h⟩ := List.mem_flatMap.1 hu
  simp only [List.mem_cons, List.not_mem_nil, or_false] at h
  rcases h with rfl | rfl <;> rfl
theorem rc_at (l : List M.R) : ∀ (k : Nat) (h : k < l.length), (rc l)[k * 2]? = some (.int .i64 l[k].p) ∧ (rc l)[k * 2 + 1]? = some (.int .i64 l[k].n) := by
  induction l with
  | nil => intro k h; simp at h
  | cons r l ih =>
    intro k h
    cases k with
    | zero => exact ⟨rfl, rfl⟩
    | succ k =>
      have := ih k (by simpa using h)
      rw [rc_cons, show (k + 1) * 2 = k * 2 + 1 + 1 by omega]
      simp only [List.getElem?_cons_succ, List.getElem_cons_succ]
      exact this
theorem runs_cells {w : World} {bl o : Nat} {l : List M.R} (h : ∀ i (h : i < l.length), w.cell? ⟨bl, o + i * 2, none⟩ = some (.int .i64 l[i].p) ∧ w.cell? ⟨bl, o + i * 2 + 1, none⟩ = some (.int .i64 l[i].n)) :
    ∀ j u, (rc l)[j]? = some u → w.cell? ⟨bl, o + j, none⟩ = some u := fun j u hu => by
  have hj : j < l.length * 2 := by
    rw [← rc_length]
    exact (List.getElem?_eq_some_iff.1 hu).1
  have hk : j / 2 < l.length := by omega
  have h1 := rc_at l (j / 2) hk
  have h2 := h (j / 2) hk
  rcases (show j = j / 2 * 2 ∨ j = j / 2 * 2 + 1 by omega) with e | e
  · rw [e] at hu
    rw [h1.1] at hu
    injection hu with hu
    rw [← hu, ← h2.1, ← e]
  · rw [e] at hu
    rw [h1.2] at hu
    injection hu with hu
    rw [← hu, ← h2.2, Nat.add_assoc, ← e]

/-- A block whose cells are known and may be written. -/
def Blk (w : World) (g : Nat) (cs : List Value) : Prop := w.heap[g]? = some (.cells cs.toArray 27 (0, 0))
section
variable {w w' : World} {g : Nat} {cs : List Value}
theorem Blk.lt (h : Blk w g cs) : g < w.heap.size := (Array.getElem?_eq_some_iff.1 h).1
theorem Blk.cell (h : Blk w g cs) (j : Nat) : w.cell? ⟨g, j, none⟩ = cs[j]? := by rw [cell_of_row w g j _ _ _ h]; simp
theorem Blk.frozen (h : Blk w g cs) (j : Nat) : w.frozen? ⟨g, j, none⟩ = false := by
  unfold World.frozen?
  rw [show w.heap[(⟨g, j, none⟩ : Addr).block]? = _ from h]
  simp
theorem Blk.shape (h : Blk w g cs) : w.shape? g = some (27, cs.length) := by
  unfold World.shape?
  rw [h]
  simp
theorem Blk.drew (h : Blk w g cs) : Blk w.drew g cs := h
theorem Blk.keep (h : Blk w g cs) (hb : w'.heap[g]? = w.heap[g]?) : Blk w' g cs := hb.trans h
theorem Blk.set (h : Blk w g cs) (ds : List Value) : Blk (w.setRow g ds.toArray) g ds := setRow_heap w g _ _ _ _ h
theorem Blk.other {b : Nat} (h : Blk w b cs) (hb : b ≠ g) (ds : Array Value) : Blk (w.setRow g ds) b cs := (setRow_other w g b ds hb).trans h
theorem Blk.new (w : World) (cs : List Value) : Blk (w.alloc (.cells cs.toArray 27)) w.heap.size cs := by
  unfold Blk World.alloc
  simp
theorem Blk.alloc (h : Blk w g cs) (o : Obj) : Blk (w.alloc o) g cs := h.keep (Below.heap_alloc w o g h.lt)
theorem below_setRow {B : Nat} {a : World} (h : Below B a w) (hg : B ≤ g) (ds : Array Value) : Below B a (w.setRow g ds) :=
  ⟨h.os, h.tape, h.output, by simpa using h.size, fun i hi => (setRow_other w g i ds (by omega)).trans (h.block i hi)⟩
/-- Runs at the head of a block. -/
theorem Blk.runs (h : Blk w g cs) {l : List M.R} (hl : cs.take (l.length * 2) = rc l) : Runs w (some ⟨g, 0, none⟩) l := fun _ => ⟨g, 0, rfl, fun i hi => by
  have h1 := rc_at l i hi
  rw [← hl] at h1
  rw [List.getElem?_take, List.getElem?_take, if_pos (by omega), if_pos (by omega)] at h1
  rw [h.cell, h.cell, Nat.zero_add]
  exact h1⟩
end

/-- Some cells are written over others. -/
def splice (cs : List Value) (o : Nat) (ds : List Value) : List Value := cs.take o ++ ds ++ cs.drop (o + ds.length)
theorem splice_length (cs : List Value) (o : Nat) (ds : List Value) (h : o + ds.length ≤ cs.length) : (splice cs o ds).length = cs.length := by
  unfold splice
  simp
  omega
theorem splice_take (cs : List Value) (o k : Nat) (ds : List Value) (h : o + ds.length ≤ cs.length) (hk : k ≤ o) : (splice cs o ds).take k = cs.take k := by
  unfold splice
  rw [List.append_assoc, List.take_append_of_le_length (by simp; omega), List.take_take, Nat.min_eq_left hk]
theorem splice_nil (cs : List Value) (o : Nat) : splice cs o [] = cs := by unfold splice; simp

theorem info36 : ∃ i, Try.prog.info? 27 = some i ∧ i.zero = some (.agg #[.int .i64 0, .int .i64 0]) ∧ i.size = 2 ∧ i.bytes = 16 := ⟨_, by rfl, by rfl, by rfl, by rfl⟩
theorem zero36 (w : World) : (zeroValue 27).run Try.prog w = .ok (.agg #[.int .i64 0, .int .i64 0]) w := by kernel_rfl

section
variable (w : World) (ty : TypeId) (g o : Nat) (cs : List Value)
/-- 'copy' upon a block. -/
theorem run_copy2 (h : Blk w g cs) (dLen dCap : Nat) (a : Addr) (sLen sCap m : Nat) (src : List Value) (hm : m = Nat.min sLen dLen) (hl : src.length = m * 2)
    (hsrc : ∀ j v, src[j]? = some v → w.cell? (a.add j) = some v) (hfit : o + src.length ≤ cs.length) (h1 : ∀ v ∈ src, v.oneCell' = true) :
    (Builtin.copy_ #[47, 47] ty #[.slice (some ⟨g, o, none⟩) dLen dCap, .slice (some a) sLen sCap]).run Try.prog w = .ok (goInt m) (w.setRow g (splice cs o src).toArray) := by
  have hld := run_loadCells_list (P := Try.prog) w a src hsrc
  have hst := run_storeCells_at Try.prog g o 27 src 0 cs.toArray w h (by simpa using hfit) h1
  obtain ⟨i, hi, hz, hs, hb⟩ := info36
  rw [hl] at hld
  simp only [Nat.add_zero] at hst
  simp [Builtin.copy_, run_underlying Try.underlying47, Builtin.lenOf, Builtin.firstCells, sizeOf, typeInfo, hi, hs, ← hm, hld, hst, splice]
/-- 'append' upon a block in which there is room. -/
theorem run_room2 (h : Blk w g cs) (n c : Nat) (a : Addr) (m mc : Nat) (src : List Value) (hl : src.length = m * 2) (hroom : n + m ≤ c)
    (hsrc : ∀ j v, src[j]? = some v → w.cell? (a.add j) = some v) (hfit : n * 2 + src.length ≤ cs.length) (h1 : ∀ v ∈ src, v.oneCell' = true) :
    (Builtin.append_ #[47, 47] ty #[.slice (some ⟨g, 0, none⟩) n c, .slice (some a) m mc]).run Try.prog w = .ok (.slice (some ⟨g, 0, none⟩) (n + m) c) (w.setRow g (splice cs (n * 2) src).toArray) := by
  have hld := run_loadCells_list (P := Try.prog) w a src hsrc
  have hst := run_storeCells_at Try.prog g (n * 2) 27 src 0 cs.toArray w h (by simpa using hfit) h1
  obtain ⟨i, hi, hz, hs, hb⟩ := info36
  rw [hl] at hld
  simp only [Nat.add_zero] at hst
  have ha : (⟨g, 0, none⟩ : Addr).add (n * 2) = ⟨g, n * 2, none⟩ := by unfold Addr.add; split <;> simp_all
  simp [Builtin.append_, run_underlying Try.underlying47, Builtin.lenOf, Builtin.firstCells, sizeOf, typeInfo, hi, hs, hroom, hld, hst, splice, ha]
/-- 'clear' upon a block. -/
theorem zeros2 (n : Nat) : (Builtin.zeroCells (Value.agg #[.int .i64 0, .int .i64 0]).cells n).toList = List.replicate (n * 2) (.int .i64 0) := by
  have hc : (Value.agg #[.int .i64 0, .int .i64 0]).cells = #[.int .i64 0, .int .i64 0] := rfl
  rw [hc]
  apply List.ext_getElem
  · simp [Builtin.zeroCells]
  · intro i h1 h2
    simp only [Builtin.zeroCells, Array.toList_map, List.getElem_map, List.getElem_replicate]
    have : i % 2 = 0 ∨ i % 2 = 1 := by omega
    simp
    rcases this with h | h <;> simp [h]
theorem run_clear2 (h : Blk w g cs) (n c : Nat) (hn : 0 < n) (hfit : o + n * 2 ≤ cs.length) :
    (Builtin.clear_ #[47] ty #[.slice (some ⟨g, o, none⟩) n c]).run Try.prog w = .ok (.tuple #[]) (w.setRow g (splice cs o (List.replicate (n * 2) (.int .i64 0))).toArray) := by
  have hst := run_storeCells_at Try.prog g o 27 (List.replicate (n * 2) (.int .i64 0)) 0 cs.toArray w h (by simpa using hfit) (fun v hv => by rw [List.eq_of_mem_replicate hv]; rfl)
  simp only [Nat.add_zero] at hst
  obtain ⟨m, rfl⟩ : ∃ m, n = m + 1 := ⟨n - 1, by omega⟩
  have hz : (Builtin.zeroCells #[.int .i64 0, .int .i64 0] (m + 1)).toList = List.replicate ((m + 1) * 2) (.int .i64 0) := zeros2 (m + 1)
  simp only [Builtin.clear_, go_sem]
  simp [run_underlying Try.underlying47]
  rw [hz, hst]
  simp [splice]
theorem run_clear0 (A : Option Addr) (c : Nat) : (Builtin.clear_ #[47] ty #[.slice A 0 c]).run Try.prog w = .ok (.tuple #[]) w := by
  cases A <;> simp [Builtin.clear_, run_underlying Try.underlying47]
theorem run_append0 (A : Option Addr) (n c : Nat) (hn : n ≤ c) (B : Option Addr) (mc : Nat) : (Builtin.append_ #[47, 47] ty #[.slice A n c, .slice B 0 mc]).run Try.prog w = .ok (.slice A n c) w := by
  obtain ⟨i, hi, hz, hs, hb⟩ := info36
  have hl : ∀ (x : Addr), (loadCells x 0).run Try.prog w = .ok #[] w := fun x => by simpa using run_loadCells_list (P := Try.prog) w x [] (by simp)
  cases A <;> cases B <;> simp [Builtin.append_, run_underlying Try.underlying47, Builtin.lenOf, Builtin.firstCells, sizeOf, typeInfo, hi, hs, hn, hl, storeCells]
end
end Go.Proofs.Yteiiiapjloincaa
