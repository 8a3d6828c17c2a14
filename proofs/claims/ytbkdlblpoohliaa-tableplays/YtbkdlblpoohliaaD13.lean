/-
  The document's tables, in memory; with.
-/
import Derived.Test.YtbkdlblpoohliaaW13
import Derived.Test.YtbkdlblpoohliaaR12
import Derived.StillTailTactics
import Derived.Deep.Fields
namespace Go.Proofs.Ytbkdlblpoohliaa
open Go.ChangeShapes Go.WideShapes Go.ChangeAt Go.RowKit Go.Deep T13
set_option linter.unusedVariables false
set_option maxRecDepth 20000

/-- The cells of a slot. -/
def ecl (e : M.Te Int) : List Value := [.int .i64 e.v, .bool e.u, .int .i64 (e.g : Int)]
def ecs (l : List (M.Te Int)) : List Value := l.flatMap ecl
theorem ecs_cons (e : M.Te Int) (l : List (M.Te Int)) : ecs (e :: l) = ecl e ++ ecs l := by simp [ecs]
theorem ecs_append (l m : List (M.Te Int)) : ecs (l ++ m) = ecs l ++ ecs m := by simp [ecs]
theorem ecs_length (l : List (M.Te Int)) : (ecs l).length = l.length * 3 := by
  induction l with
  | nil => rfl
  | cons e l ih => rw [ecs_cons, List.length_append, ih, List.length_cons]; show 3 + l.length * 3 = _; omega
theorem ecs_one (l : List (M.Te Int)) : ∀ u ∈ ecs l, u.oneCell' = true := by
  intro u hu
  unfold ecs at hu
  obtain ⟨r, _, h⟩ := List.mem_flatMap.1 hu
  simp only [ecl, List.mem_cons, List.not_mem_nil, or_false] at h
  rcases h with rfl | rfl | rfl <;> rfl
theorem ecs_at (l : List (M.Te Int)) : ∀ (i : Nat) (e : M.Te Int), l[i]? = some e → (ecs l)[i * 3]? = some (.int .i64 e.v) ∧ (ecs l)[i * 3 + 1]? = some (.bool e.u) ∧ (ecs l)[i * 3 + 2]? = some (.int .i64 (e.g : Int)) := by
  induction l with
  | nil => intro i e h; simp at h
  | cons x l ih =>
    intro i e h
    cases i with
    | zero => simp at h; subst h; simp [ecs_cons, ecl]
    | succ i =>
      rw [ecs_cons, show (i + 1) * 3 = i * 3 + 1 + 1 + 1 by omega]
      simp only [ecl, List.cons_append, List.nil_append, Nat.add_right_comm _ 1, List.getElem?_cons_succ]
      have := ih i e (by simpa using h)
      simpa [Nat.add_assoc] using this
theorem ecs_set (l : List (M.Te Int)) : ∀ (i : Nat) (e : M.Te Int), i < l.length → ecs (l.set i e) = (((ecs l).set (i * 3) (.int .i64 e.v)).set (i * 3 + 1) (.bool e.u)).set (i * 3 + 2) (.int .i64 (e.g : Int)) := by
  induction l with
  | nil => intro i e h; simp at h
  | cons x l ih =>
    intro i e h
    cases i with
    | zero => simp [ecs_cons, ecl]
    | succ i =>
      rw [List.set_cons_succ, ecs_cons, ecs_cons, ih i e (by simpa using h), show (i + 1) * 3 = i * 3 + 1 + 1 + 1 by omega]
      simp only [ecl, List.cons_append, List.nil_append, Nat.add_right_comm _ 1, List.set_cons_succ]
theorem infoE : ∃ i, Try.prog.info? 41 = some i ∧ i.zero = some (.agg #[.int .i64 0, .bool false, .int .i64 0]) ∧ i.size = 3 ∧ i.bytes = 24 := ⟨_, by rfl, by rfl, by rfl, by rfl⟩
/-- A table as a value. -/
abbrev tv (K : Int) (A : Option Addr) (n c : Nat) (F : Option Addr) (m d : Nat) : Value := .agg #[.int .i64 K, .slice A n c, .slice F m d]
/-- A variable that holds one. -/
structure Bt (w : World) (g : Nat) (K : Int) (A : Option Addr) (n c : Nat) (F : Option Addr) (m d : Nat) : Prop where
  blk : w.heap[g]? = some (.cells #[.int .i64 K, .slice A n c, .slice F m d] 29 (0, 0))
section
variable {w w' : World} {g n c m d n' c' m' d' : Nat} {K K' : Int} {A F A' F' : Option Addr} {O : Nat → Prop}
theorem Bt.lt (h : Bt w g K A n c F m d) : g < w.heap.size := (Array.getElem?_eq_some_iff.1 h.blk).1
theorem Bt.cell (h : Bt w g K A n c F m d) (j : Nat) : w.cell? ⟨g, j, none⟩ = (#[Value.int .i64 K, .slice A n c, .slice F m d] : Array Value)[j]? := by rw [cell_of_row w g j _ _ _ h.blk]
theorem Bt.c0 (h : Bt w g K A n c F m d) : w.cell? ⟨g, 0, none⟩ = some (.int .i64 K) := by rw [h.cell]; rfl
theorem Bt.c1 (h : Bt w g K A n c F m d) : w.cell? ⟨g, 1, none⟩ = some (.slice A n c) := by rw [h.cell]; rfl
theorem Bt.c2 (h : Bt w g K A n c F m d) : w.cell? ⟨g, 2, none⟩ = some (.slice F m d) := by rw [h.cell]; rfl
theorem Bt.frz (h : Bt w g K A n c F m d) (j : Nat) : w.frozen? ⟨g, j, none⟩ = false := frozen_of_row w g j _ _ h.blk
theorem Bt.new (w : World) (K : Int) (A : Option Addr) (n c : Nat) (F : Option Addr) (m d : Nat) : Bt (w.alloc (.cells #[.int .i64 K, .slice A n c, .slice F m d] 29)) w.heap.size K A n c F m d := ⟨heap_alloc_new w _⟩
theorem Bt.keep (h : Bt w g K A n c F m d) (hb : w'.heap[g]? = w.heap[g]?) : Bt w' g K A n c F m d := ⟨hb.trans h.blk⟩
theorem Bt.kept (h : Bt w g K A n c F m d) (k : Kept w w' O) (hO : ¬ O g) : Bt w' g K A n c F m d := h.keep (k.block g h.lt hO)
theorem Bt.below (h : Bt w g K A n c F m d) (hb : Below w.heap.size w w') : Bt w' g K A n c F m d := h.keep (hb.block g h.lt)
theorem Bt.alloc (h : Bt w g K A n c F m d) (o : Obj) : Bt (w.alloc o) g K A n c F m d := h.below ((Below.refl _ _).alloc (Nat.le_refl _) o)
theorem Bt.set0 (h : Bt w g K A n c F m d) (K' : Int) : Bt (w.setCell ⟨g, 0, none⟩ (.int .i64 K')) g K' A n c F m d := ⟨by rw [heap_setCell_same w g 0 _ _ _ h.blk]; rfl⟩
theorem Bt.set1 (h : Bt w g K A n c F m d) (A' : Option Addr) (n' c' : Nat) : Bt (w.setCell ⟨g, 1, none⟩ (.slice A' n' c')) g K A' n' c' F m d := ⟨by rw [heap_setCell_same w g 1 _ _ _ h.blk]; rfl⟩
theorem Bt.set2 (h : Bt w g K A n c F m d) (F' : Option Addr) (m' d' : Nat) : Bt (w.setCell ⟨g, 2, none⟩ (.slice F' m' d')) g K A n c F' m' d' := ⟨by rw [heap_setCell_same w g 2 _ _ _ h.blk]; rfl⟩
theorem Bt.other (h : Bt w g K A n c F m d) {p : Addr} (hp : g ≠ p.block) (v : Value) : Bt (w.setCell p v) g K A n c F m d := h.keep (Below.heap_setCell w p v g hp)
/-- A whole value is stored. -/
theorem Bt.put (h : Bt w g K A n c F m d) (K' : Int) (A' : Option Addr) (n' c' : Nat) (F' : Option Addr) (m' d' : Nat) :
    Bt (((w.setCell ⟨g, 0, none⟩ (.int .i64 K')).setCell ⟨g, 1, none⟩ (.slice A' n' c')).setCell ⟨g, 2, none⟩ (.slice F' m' d')) g K' A' n' c' F' m' d' := ((h.set0 K').set1 A' n' c').set2 F' m' d'
end
theorem below_put {B g : Nat} {a w : World} (h : Below B a w) (hg : B ≤ g) (v0 v1 v2 : Value) : Below B a (((w.setCell ⟨g, 0, none⟩ v0).setCell ⟨g, 1, none⟩ v1).setCell ⟨g, 2, none⟩ v2) :=
  ((h.setCell (p := ⟨g, 0, none⟩) hg v0).setCell (p := ⟨g, 1, none⟩) hg v1).setCell (p := ⟨g, 2, none⟩) hg v2
theorem kept_put {g : Nat} (w : World) (v0 v1 v2 : Value) : Kept w (((w.setCell ⟨g, 0, none⟩ v0).setCell ⟨g, 1, none⟩ v1).setCell ⟨g, 2, none⟩ v2) (fun x => x = g) :=
  (((Kept.refl w (fun x => x = g)).setCell (p := ⟨g, 0, none⟩) (fun _ => rfl) v0).setCell (p := ⟨g, 1, none⟩) (fun _ => rfl) v1).setCell (p := ⟨g, 2, none⟩) (fun _ => rfl) v2
/-- Slots' cells. -/
theorem e_cells {w : World} {B n c i : Nat} {A : Option Addr} {l : List (M.Te Int)} {e : M.Te Int} (h : w.ownsRow B 41 3 (.slice A n c) n (ecs l)) (he : l[i]? = some e) :
    ∃ g, A = some ⟨g, 0, none⟩ ∧ i < n ∧ n = l.length ∧ w.cell? ⟨g, i * 3, none⟩ = some (.int .i64 e.v) ∧ w.cell? ⟨g, i * 3 + 1, none⟩ = some (.bool e.u) ∧ w.cell? ⟨g, i * 3 + 2, none⟩ = some (.int .i64 (e.g : Int)) := by
  have hi : i < l.length := (List.getElem?_eq_some_iff.1 he).1
  have hn : n = l.length := by have := h.1; rw [ecs_length] at this; omega
  obtain ⟨g, rfl⟩ := row_some h (by omega)
  have := ecs_at l i e he
  refine ⟨g, rfl, by omega, hn, ?_⟩
  rw [h.cellAt _ (by omega), h.cellAt _ (by omega), h.cellAt _ (by omega)]
  exact this
theorem e_len {w : World} {B n c : Nat} {A : Option Addr} {l : List (M.Te Int)} (h : w.ownsRow B 41 3 (.slice A n c) n (ecs l)) : n = l.length := by have := h.1; rw [ecs_length] at this; omega
theorem append0_e (w : World) (ty : TypeId) (A : Option Addr) (n c : Nat) (hn : n ≤ c) (B : Option Addr) (mc : Nat) : (Builtin.append_ #[26, 26] ty #[.slice A n c, .slice B 0 mc]).run Try.prog w = .ok (.slice A n c) w := by
  obtain ⟨i, hi, hz, hs, hb⟩ := infoE
  have hl : ∀ (x : Addr), (loadCells x 0).run Try.prog w = .ok #[] w := fun x => by simpa using run_loadCells_list (P := Try.prog) w x [] (by simp)
  cases A <;> cases B <;> simp [Builtin.append_, run_underlying Try.underlying26, Builtin.lenOf, Builtin.firstCells, sizeOf, typeInfo, hi, hs, hn, hl, storeCells]
/-- Slots are appended, none of them perhaps, to a list of one's own. -/
theorem app_e {ops : Array Oper} {rest : List Oper} {o : Oper} {a : Act} {Q : Exit → Act → World → Prop} (hgd : o.guard = none) (s x : Operand) (ho : o.op = .call { callee := .builtin .append, args := #[s, x], argTypes := #[26, 26] })
    (w : World) (B : Nat) (A : Option Addr) (t c : Nat) (xs : List (M.Te Int)) (hs : a.eval s = .slice A t c) (hown : w.ownsRow B 41 3 (.slice A t c) t (ecs xs))
    (A2 : Option Addr) (m c2 : Nat) (S : List (M.Te Int)) (hx : a.eval x = .slice A2 m c2) (hm : m = S.length) (hR : Lies w A2 (ecs S)) (h1 : t + m ≤ 1000001) (hB : B ≤ w.heap.size)
    (h : ∀ A' c' w', w'.ownsRow B 41 3 (.slice A' (t + m) c') (t + m) (ecs (xs ++ S)) → Kept w w' (rowD A) → (∀ x, rowD A' x → rowD A x ∨ x = w.heap.size) → wpList Try.prog ops Q rest (a.put o.dst (.slice A' (t + m) c')) w') : wpList Try.prog ops Q (o :: rest) a w := by
  rcases Nat.eq_zero_or_pos m with h0 | h0
  · subst h0
    have hS : S = [] := List.length_eq_zero_iff.1 hm.symm
    refine Lib.wpList_append_run w hgd s x _ _ ho (.slice A t c) (.slice A2 0 c2) hs hx (.slice A t c) w (append0_e w _ A t c (row_cap hown) A2 c2) ?_
    exact h A c w (by rw [hS, List.append_nil]; exact hown) (Kept.refl _ _) (fun x hx => .inl hx)
  · obtain ⟨ad, rfl, hc⟩ := hR (by rw [ecs_length]; omega)
    obtain ⟨i, hi, hi0, hi1, hi2⟩ := infoE
    refine wpList_append_lies w hgd s x 26 ho B 41 i (.agg #[.int .i64 0, .bool false, .int .i64 0]) 3 24 Try.underlying26 hi hi0 hi1 hi2 rfl (by decide) (.slice A t c) t (ecs xs) hs hown ad m c2 (ecs S) hx (by rw [ecs_length, hm]) (fun j u hu => by obtain ⟨hj, rfl⟩ := List.getElem?_eq_some_iff.1 hu; exact hc j hj) (ecs_one _) h0 (by unfold maxLen; omega) (by omega) hB _ rfl ?_
    intro g1 c1 w' hrow hgr hat hlt
    refine h _ _ w' (by rw [ecs_append]; exact hrow) ((Kept.refl w _).grown hgr (fun x e _ => own_D e)) (fun x hx => ?_)
    rw [rowD_some hx]
    exact hat.imp own_D id
theorem lies_e {w : World} {B n c : Nat} {A : Option Addr} {l : List (M.Te Int)} (h : w.ownsRow B 41 3 (.slice A n c) n (ecs l)) : Lies w A (ecs l) := fun hn => by
  have hl := h.1
  obtain ⟨g, rfl⟩ := row_some h (by rw [hl] at hn; omega)
  refine ⟨_, rfl, fun j hj => ?_⟩
  rw [Addr.add_lit, Nat.zero_add, h.cellAt j (by omega)]
  exact List.getElem?_eq_getElem hj
theorem lies_ecl (w : World) (e : M.Te Int) : Lies (w.alloc (.cells #[.int .i64 e.v, .bool e.u, .int .i64 (e.g : Int)] 41)) (some ⟨w.heap.size, 0, none⟩) (ecs [e]) := fun _ => ⟨_, rfl, fun j hj => by
  have := news_new w (ecl e) 41 j _ (List.getElem?_eq_getElem (by simpa [ecs] using hj))
  rw [show (ecs [e])[j] = (ecl e)[j]'(by simpa [ecs] using hj) by simp [ecs]]
  exact this⟩
end Go.Proofs.Ytbkdlblpoohliaa
