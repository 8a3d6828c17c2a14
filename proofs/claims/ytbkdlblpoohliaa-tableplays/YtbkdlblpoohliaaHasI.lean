/-
  A table of ints in memory; New and room.
-/
import Derived.Test.YtbkdlblpoohliaaB13
namespace Go.Proofs.Ytbkdlblpoohliaa.TI
open Go.ChangeShapes Go.WideShapes Go.ChangeAt Go.RowKit Go.Deep T13
set_option linter.unusedVariables false
set_option maxRecDepth 20000

abbrev Th := Int
/-- The cells of a slot. -/
def cel (K : Int) (e : M.Te Th) : List Value := [.int .i64 (M.kd K e.u), .int .i64 (e.g : Int), .int .i64 (e.v)]
def tcs (K : Int) (l : List (M.Te Th)) : List Value := l.flatMap (cel K)
abbrev z0 : Th := (0 : Int)
abbrev e0 : M.Te Th := ⟨false, 0, z0⟩
theorem tcs_cons (K : Int) (e : M.Te Th) (l : List (M.Te Th)) : tcs K (e :: l) = cel K e ++ tcs K l := by simp [tcs]
theorem tcs_append (K : Int) (l m : List (M.Te Th)) : tcs K (l ++ m) = tcs K l ++ tcs K m := by simp [tcs]
theorem tcs_length (K : Int) (l : List (M.Te Th)) : (tcs K l).length = l.length * 3 := by
  induction l with
  | nil => rfl
  | cons e l ih => rw [tcs_cons, List.length_append, ih, List.length_cons]; show 3 + l.length * 3 = _; omega
theorem tcs_one (K : Int) (l : List (M.Te Th)) : ∀ u ∈ tcs K l, u.oneCell' = true := by
  intro u hu
  unfold tcs at hu
  obtain ⟨r, _, h⟩ := List.mem_flatMap.1 hu
  simp only [cel, List.mem_cons, List.not_mem_nil, or_false] at h
  rcases h with rfl | rfl | rfl <;> rfl
theorem tcs_at (K : Int) (l : List (M.Te Th)) : ∀ (i : Nat) (e : M.Te Th), l[i]? = some e → (tcs K l)[i * 3]? = some (.int .i64 (M.kd K e.u)) ∧ (tcs K l)[i * 3 + 1]? = some (.int .i64 (e.g : Int)) ∧ (tcs K l)[i * 3 + 2]? = some (.int .i64 (e.v)) := by
  induction l with
  | nil => intro i e h; simp at h
  | cons x l ih =>
    intro i e h
    cases i with
    | zero => simp at h; subst h; simp [tcs_cons, cel]
    | succ i =>
      rw [tcs_cons, show (i + 1) * 3 = i * 3 + 1 + 1 + 1 by omega]
      simp only [cel, List.cons_append, List.nil_append, Nat.add_right_comm _ 1, List.getElem?_cons_succ]
      have := ih i e (by simpa using h)
      simpa [Nat.add_assoc] using this
/-- A slot is written. -/
theorem tcs_set (K : Int) (l : List (M.Te Th)) : ∀ (i : Nat) (e : M.Te Th), i < l.length → tcs K (l.set i e) = (((tcs K l).set (i * 3) (.int .i64 (M.kd K e.u))).set (i * 3 + 1) (.int .i64 (e.g : Int))).set (i * 3 + 2) (.int .i64 (e.v)) := by
  induction l with
  | nil => intro i e h; simp at h
  | cons x l ih =>
    intro i e h
    cases i with
    | zero => simp [tcs_cons, cel]
    | succ i =>
      rw [List.set_cons_succ, tcs_cons, tcs_cons, ih i e (by simpa using h), show (i + 1) * 3 = i * 3 + 1 + 1 + 1 by omega]
      simp only [cel, List.cons_append, List.nil_append, Nat.add_right_comm _ 1, List.set_cons_succ]
theorem tcs_thing (K : Int) (l : List (M.Te Th)) : ∀ (i : Nat) (e : M.Te Th) (v : Th), l[i]? = some e → tcs K (l.set i ⟨e.u, e.g, v⟩) = (tcs K l).set (i * 3 + 2) (.int .i64 (v)) := by
  induction l with
  | nil => intro i e v h; simp at h
  | cons x l ih =>
    intro i e v h
    cases i with
    | zero => simp at h; subst h; simp [tcs_cons, cel]
    | succ i =>
      rw [List.set_cons_succ, tcs_cons, tcs_cons, ih i e v (by simpa using h), show (i + 1) * 3 = i * 3 + 1 + 1 + 1 by omega]
      simp only [cel, List.cons_append, List.nil_append, Nat.add_right_comm _ 1, List.set_cons_succ]
theorem tcs_use (K : Int) (l : List (M.Te Th)) : ∀ (i : Nat) (e : M.Te Th) (v : Th), l[i]? = some e → tcs K (l.set i ⟨true, e.g, v⟩) = ((tcs K l).set (i * 3) (.int .i64 K)).set (i * 3 + 2) (.int .i64 (v)) := by
  induction l with
  | nil => intro i e v h; simp at h
  | cons x l ih =>
    intro i e v h
    cases i with
    | zero => simp at h; subst h; simp [tcs_cons, cel, M.kd]
    | succ i =>
      rw [List.set_cons_succ, tcs_cons, tcs_cons, ih i e v (by simpa using h), show (i + 1) * 3 = i * 3 + 1 + 1 + 1 by omega]
      simp only [cel, List.cons_append, List.nil_append, Nat.add_right_comm _ 1, List.set_cons_succ]
theorem infoT : ∃ i, Try.prog.info? 80 = some i ∧ i.zero = some (.agg #[.int .i64 0, .int .i64 0, .int .i64 (z0)]) ∧ i.size = 3 ∧ i.bytes = 24 := ⟨_, by rfl, by rfl, by rfl, by rfl⟩

/-- The cells of a table, and its lists. -/
structure Tab (w : World) (B t : Nat) (K : Int) (S : M.Tt Th) (A F : Option Addr) (n c m d : Nat) : Prop where
  blk : w.heap[t]? = some (.cells #[.int .i64 K, .slice A n c, .slice F m d] 74 (0, 0))
  row : w.ownsRow B 80 3 (.slice A n c) n (tcs K S.s)
  fre : w.ownsRow B 3 1 (.slice F m d) m (nats S.f)
section
variable {w w' : World} {B t n c m d n' c' m' d' : Nat} {K : Int} {S S' : M.Tt Th} {A F A' F' : Option Addr} {O : Nat → Prop}
theorem Tab.lt (h : Tab w B t K S A F n c m d) : t < w.heap.size := (Array.getElem?_eq_some_iff.1 h.blk).1
theorem Tab.cell (h : Tab w B t K S A F n c m d) (j : Nat) : w.cell? ⟨t, j, none⟩ = (#[Value.int .i64 K, .slice A n c, .slice F m d] : Array Value)[j]? := by rw [cell_of_row w t j _ _ _ h.blk]
theorem Tab.c0 (h : Tab w B t K S A F n c m d) : w.cell? ⟨t, 0, none⟩ = some (.int .i64 K) := by rw [h.cell]; rfl
theorem Tab.c1 (h : Tab w B t K S A F n c m d) : w.cell? ⟨t, 1, none⟩ = some (.slice A n c) := by rw [h.cell]; rfl
theorem Tab.c2 (h : Tab w B t K S A F n c m d) : w.cell? ⟨t, 2, none⟩ = some (.slice F m d) := by rw [h.cell]; rfl
theorem Tab.frz (h : Tab w B t K S A F n c m d) (j : Nat) : w.frozen? ⟨t, j, none⟩ = false := frozen_of_row w t j _ _ h.blk
theorem Tab.n_eq (h : Tab w B t K S A F n c m d) : n = S.s.length := by have := h.row.1; rw [tcs_length] at this; omega
theorem Tab.m_eq (h : Tab w B t K S A F n c m d) : m = S.f.length := nats_len h.fre
theorem Tab.offA (h : Tab w B t K S A F n c m d) : ¬ rowD A t := row_off h.row h.blk (by decide)
theorem Tab.offF (h : Tab w B t K S A F n c m d) : ¬ rowD F t := row_off h.fre h.blk (by decide)
theorem Tab.apart (h : Tab w B t K S A F n c m d) {x : Nat} (hx : rowD A x) : ¬ rowD F x := row_apart h.row h.fre (by decide) hx
theorem Tab.kept (h : Tab w B t K S A F n c m d) (k : Kept w w' O) (ht : ¬ O t) (hA : ∀ x, rowD A x → ¬ O x) (hF : ∀ x, rowD F x → ¬ O x) : Tab w' B t K S A F n c m d :=
  ⟨(k.block t h.lt ht).trans h.blk, row_kept h.row k hA, row_kept h.fre k hF⟩
/-- A slot's cells. -/
theorem Tab.slot (h : Tab w B t K S A F n c m d) {i : Nat} {e : M.Te Th} (he : S.s[i]? = some e) : ∃ g, A = some ⟨g, 0, none⟩ ∧ i < n ∧ (∀ j, w.frozen? ⟨g, j, none⟩ = false) ∧ w.cell? ⟨g, i * 3, none⟩ = some (.int .i64 (M.kd K e.u)) ∧ w.cell? ⟨g, i * 3 + 1, none⟩ = some (.int .i64 (e.g : Int)) ∧ w.cell? ⟨g, i * 3 + 2, none⟩ = some (.int .i64 (e.v)) := by
  have hi : i < S.s.length := (List.getElem?_eq_some_iff.1 he).1
  have hn := h.n_eq
  obtain ⟨g, rfl⟩ := row_some h.row (by omega)
  have := tcs_at K S.s i e he
  refine ⟨g, rfl, by omega, fun j => h.row.frozenAt j, ?_⟩
  rw [h.row.cellAt _ (by omega), h.row.cellAt _ (by omega), h.row.cellAt _ (by omega)]
  exact this
/-- The slots are another list. -/
theorem Tab.turn (h : Tab w B t K S A F n c m d) (hr : w'.ownsRow B 80 3 (.slice A' n' c') n' (tcs K S'.s)) (hb : w'.heap[t]? = w.heap[t]?) (hf : w'.ownsRow B 3 1 (.slice F m d) m (nats S'.f)) :
    Tab (w'.setCell ⟨t, 1, none⟩ (.slice A' n' c')) B t K S' A' F n' c' m d := by
  have hb' := hb.trans h.blk
  have k : Kept w' (w'.setCell ⟨t, 1, none⟩ (.slice A' n' c')) (fun x => x = t) := (Kept.refl w' (fun x => x = t)).setCell (p := ⟨t, 1, none⟩) (fun _ => rfl) _
  refine ⟨?_, row_kept hr k (fun x hx e => row_off hr hb' (by decide) (e ▸ hx)), row_kept hf k (fun x hx e => row_off hf hb' (by decide) (e ▸ hx))⟩
  rw [heap_setCell_same w' t 1 _ _ _ hb']
  rfl
theorem Tab.turnF (h : Tab w B t K S A F n c m d) (hr : w'.ownsRow B 80 3 (.slice A n c) n (tcs K S'.s)) (hb : w'.heap[t]? = w.heap[t]?) (hf : w'.ownsRow B 3 1 (.slice F' m' d') m' (nats S'.f)) :
    Tab (w'.setCell ⟨t, 2, none⟩ (.slice F' m' d')) B t K S' A F' n c m' d' := by
  have hb' := hb.trans h.blk
  have k : Kept w' (w'.setCell ⟨t, 2, none⟩ (.slice F' m' d')) (fun x => x = t) := (Kept.refl w' (fun x => x = t)).setCell (p := ⟨t, 2, none⟩) (fun _ => rfl) _
  refine ⟨?_, row_kept hr k (fun x hx e => row_off hr hb' (by decide) (e ▸ hx)), row_kept hf k (fun x hx e => row_off hf hb' (by decide) (e ▸ hx))⟩
  rw [heap_setCell_same w' t 2 _ _ _ hb']
  rfl
/-- The slots are written over. -/
theorem Tab.over {g : Nat} (h : Tab w B t K S (some ⟨g, 0, none⟩) F n c m d) (k : Kept w w' (fun x => x = g)) (hr : w'.ownsRow B 80 3 (.slice (some ⟨g, 0, none⟩) n c) n (tcs K S'.s)) (hf : S'.f = S.f) : Tab w' B t K S' (some ⟨g, 0, none⟩) F n c m d := by
  have hg : rowD (some ⟨g, 0, none⟩) g := ⟨_, rfl, rfl⟩
  refine ⟨(k.block t h.lt (fun e => h.offA (e ▸ hg))).trans h.blk, hr, ?_⟩
  rw [hf]
  exact row_kept h.fre k (fun x hx e => h.apart (e ▸ hg) hx)
end

/-- A table. -/
structure Has (w : World) (B t : Nat) (K : Int) (S : M.Tt Th) (Q : Nat → Prop) : Prop where
  ex : ∃ A F n c m d, Tab w B t K S A F n c m d ∧ (∀ x, rowD A x → Q x) ∧ (∀ x, rowD F x → Q x)
  qt : Q t
  lt : ∀ x, Q x → x < w.heap.size
  old : ∀ x, Q x → B ≤ x
  low : B ≤ w.heap.size
section
variable {w w' : World} {B t n c m d : Nat} {K : Int} {S S' : M.Tt Th} {A F : Option Addr} {O Q : Nat → Prop}
theorem Has.kept (h : Has w B t K S Q) (k : Kept w w' O) (hO : ∀ x, Q x → ¬ O x) : Has w' B t K S Q := by
  obtain ⟨A, F, n, c, m, d, ht, hA, hF⟩ := h.ex
  exact ⟨⟨A, F, n, c, m, d, ht.kept k (hO t h.qt) (fun x hx => hO x (hA x hx)) (fun x hx => hO x (hF x hx)), hA, hF⟩, h.qt, fun x hx => Nat.lt_of_lt_of_le (h.lt x hx) k.size, h.old, Nat.le_trans h.low k.size⟩
theorem Has.below (h : Has w B t K S Q) (hb : Below w.heap.size w w') : Has w' B t K S Q := h.kept (Kept.of_below hb (fun _ => False)) (fun _ _ e => e)
theorem Has.wid (h : Has w B t K S Q) (hb : Below w.heap.size w w') : Has w' B t K S (Wid Q w w') := by
  have h' := h.below hb
  obtain ⟨A, F, n, c, m, d, ht, hA, hF⟩ := h'.ex
  exact ⟨⟨A, F, n, c, m, d, ht, fun x hx => .inl (hA x hx), fun x hx => .inl (hF x hx)⟩, .inl h.qt, fun x hx => hx.elim (h'.lt x) (fun e => e.2), fun x hx => hx.elim (h.old x) (fun e => Nat.le_trans h.low e.1), h'.low⟩
/-- What a call leaves. -/
def Got (w w' : World) (B t : Nat) (K : Int) (S : M.Tt Th) (Q : Nat → Prop) : Prop := Has w' B t K S (Wid Q w w') ∧ Kept w w' Q
theorem Has.got (h : Has w B t K S Q) (k : Kept w w' Q) (ht : Tab w' B t K S' A F n c m d) (hA : ∀ x, rowD A x → Wid Q w w' x) (hF : ∀ x, rowD F x → Wid Q w w' x) : Got w w' B t K S' Q :=
  ⟨⟨⟨A, F, n, c, m, d, ht, hA, hF⟩, .inl h.qt, fun x hx => hx.elim (fun e => Nat.lt_of_lt_of_le (h.lt x e) k.size) (fun e => e.2), fun x hx => hx.elim (h.old x) (fun e => Nat.le_trans h.low e.1), Nat.le_trans h.low k.size⟩, k⟩
theorem Got.same (h : Has w B t K S Q) (hb : Below w.heap.size w w') : Got w w' B t K S Q := ⟨h.wid hb, Kept.of_below hb _⟩
theorem Got.more {w2 : World} (h : Got w w' B t K S Q) (hb : Below w'.heap.size w' w2) : Got w w2 B t K S Q := by
  have k := h.2.trans (Kept.of_below hb Q) (fun _ _ e => e)
  have h' := h.1.below hb
  obtain ⟨A, F, n, c, m, d, ht, hA, hF⟩ := h'.ex
  have up : ∀ x, Wid Q w w' x → Wid Q w w2 x := fun x hx => hx.imp id (fun e => ⟨e.1, Nat.lt_of_lt_of_le e.2 hb.size⟩)
  refine ⟨⟨⟨A, F, n, c, m, d, ht, fun x hx => up x (hA x hx), fun x hx => up x (hF x hx)⟩, up t h.1.qt, fun x hx => hx.elim (fun e => h'.lt x (.inl e)) (fun e => e.2), fun x hx => ?_, h'.low⟩, k⟩
  rcases hx with e | e
  · exact h.1.old x (.inl e)
  · rcases Nat.lt_or_ge x w'.heap.size with h1 | h1
    · exact h.1.old x (.inr ⟨e.1, h1⟩)
    · exact Nat.le_trans h.1.low h1
theorem Got.from {wb : World} (h : Has w B t K S Q) (hb : Below w.heap.size w wb) (g : Got wb w' B t K S' Q) : Got w w' B t K S' Q := by
  have k := (Kept.of_below hb Q).trans g.2 (fun _ _ e => e)
  have up : ∀ x, Wid Q wb w' x → Wid Q w w' x := fun x hx => hx.imp id (fun e => ⟨Nat.le_trans hb.size e.1, e.2⟩)
  obtain ⟨A, F, n, c, m, d, ht, hA, hF⟩ := g.1.ex
  exact ⟨⟨⟨A, F, n, c, m, d, ht, fun x hx => up x (hA x hx), fun x hx => up x (hF x hx)⟩, .inl h.qt, fun x hx => hx.elim (fun e => Nat.lt_of_lt_of_le (h.lt x e) k.size) (fun e => e.2), fun x hx => hx.elim (h.old x) (fun e => Nat.le_trans h.low e.1), g.1.low⟩, k⟩
theorem Got.then {w2 : World} {S2 : M.Tt Th} (h : Got w w' B t K S Q) (g : Got w' w2 B t K S2 (Wid Q w w')) : Got w w2 B t K S2 Q := by
  have k := h.2.wid g.2
  have up : ∀ x, Wid (Wid Q w w') w' w2 x → Wid Q w w2 x := fun x hx => Wid.trans h.2.size g.2.size hx
  obtain ⟨A, F, n, c, m, d, ht, hA, hF⟩ := g.1.ex
  exact ⟨⟨⟨A, F, n, c, m, d, ht, fun x hx => up x (hA x hx), fun x hx => up x (hF x hx)⟩, up t g.1.qt, fun x hx => hx.elim (fun e => Nat.lt_of_lt_of_le (h.1.lt x (.inl e)) g.2.size) (fun e => e.2), fun x hx => hx.elim (fun e => h.1.old x (.inl e)) (fun e => by
    rcases Nat.lt_or_ge x w'.heap.size with h1 | h1
    · exact h.1.old x (.inr ⟨e.1, h1⟩)
    · exact Nat.le_trans h.1.low h1), g.1.low⟩, k⟩
end

theorem new_any (w : World) (K : Int) (B : Nat) (hB : B ≤ w.heap.size) :
    Calls Try.prog 9 #[.int .i64 K] w fun e w' => ∃ t, e = .returned (.pointer (some ⟨t, 0, none⟩)) ∧ Has w' B t K M.Tt.new (fun x => x = t) ∧ Below w.heap.size w w' ∧ w.heap.size ≤ t := by
  have hb : Below w.heap.size w (w.alloc (.cells #[.int .i64 K, .slice none 0 0, .slice none 0 0] 74)) := (Below.refl _ _).alloc (Nat.le_refl _) _
  have ht : Tab (w.alloc (.cells #[.int .i64 K, .slice none 0 0, .slice none 0 0] 74)) B w.heap.size K M.Tt.new none none 0 0 0 0 :=
    ⟨heap_alloc_new w _, ⟨rfl, .inl ⟨rfl, rfl⟩⟩, ⟨rfl, .inl ⟨rfl, rfl⟩⟩⟩
  have hh : Has (w.alloc (.cells #[.int .i64 K, .slice none 0 0, .slice none 0 0] 74)) B w.heap.size K M.Tt.new (fun x => x = w.heap.size) :=
    ⟨⟨_, _, _, _, _, _, ht, fun x hx => absurd hx rowD_none, fun x hx => absurd hx rowD_none⟩, rfl, fun x hx => by subst hx; simp, fun x hx => by omega, by simp; omega⟩
  have HH := Lib.hid hh
  have HB := Lib.hid hb
  clear hh hb ht
  go_enter Try.func9, Try.ntmps9
  go_wp2_with fail
  go_ret
  exact ⟨_, rfl, HH.out, HB.out, Nat.le_refl _⟩
end Go.Proofs.Ytbkdlblpoohliaa.TI
