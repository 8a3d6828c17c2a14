/-
  Lists of a law's own beside a table.
-/
import Derived.Test.YtbkdlblpoohliaaB13
namespace Go.Proofs.Ytbkdlblpoohliaa.T13
open Go.ChangeShapes Go.WideShapes Go.ChangeAt Go.RowKit Go.Deep
set_option linter.unusedVariables false
set_option maxRecDepth 20000

/-- A list of one's own, beside a table's blocks. -/
structure Lst (w : World) (e : TypeId) (B : Nat) (A : Option Addr) (t c : Nat) (xs : List Value) (Q : Nat → Prop) : Prop where
  row : w.ownsRow B e 1 (.slice A t c) t xs
  off : ∀ x, rowD A x → ¬ Q x
section
variable {w w' : World} {e e2 : TypeId} {B t c t2 c2 : Nat} {A A2 A' : Option Addr} {xs ys : List Value} {Q O Q' : Nat → Prop}
theorem Lst.none' (w : World) (e : TypeId) (B : Nat) (Q : Nat → Prop) : Lst w e B none 0 0 [] Q := ⟨⟨by simp, .inl ⟨rfl, rfl⟩⟩, fun x hx => absurd hx rowD_none⟩
theorem Lst.call (h : Lst w e B A t c xs Q) (hk : Kept w w' Q) : Lst w' e B A t c xs (Wid Q w w') :=
  ⟨row_kept h.row hk h.off, fun x hx e => e.elim (h.off x hx) (fun e => by have := (row_low h.row hx).2; omega)⟩
theorem Lst.below (h : Lst w e B A t c xs Q) (hb : Below w.heap.size w w') : Lst w' e B A t c xs Q := ⟨row_below h.row hb, h.off⟩
theorem Lst.other (h : Lst w e B A t c xs Q) (hk : Kept w w' O) (hO : ∀ x, rowD A x → ¬ O x) : Lst w' e B A t c xs Q := ⟨row_kept h.row hk hO, h.off⟩
/-- Another list beside the one to which something is appended. -/
theorem app_other {n2 : Nat} {ys : List Value} (hy : Lst w e2 B A2 n2 c2 ys Q) (ap : ∀ x, rowD A x → ¬ rowD A2 x) (hk : Kept w w' (rowD A)) (hat : ∀ x, rowD A' x → rowD A x ∨ x = w.heap.size) :
    Lst w' e2 B A2 n2 c2 ys Q ∧ ∀ x, rowD A' x → ¬ rowD A2 x :=
  ⟨hy.other hk (fun x hx hA => ap x hA hx), fun x hx h2 => (hat x hx).elim (fun e => ap x e h2) (fun e => by have := (row_low hy.row h2).2; omega)⟩
theorem Lst.len (h : Lst w e B A t c xs Q) : t = xs.length := by have := h.row.1; omega
end
section
variable {w w' : World} {e : TypeId} {B t c : Nat} {A : Option Addr} {xs : List Value}
theorem lies_new (w : World) (v : Value) (e : TypeId) : Lies (w.alloc (.cells #[v] e)) (some ⟨w.heap.size, 0, none⟩) [v] := fun _ => ⟨_, rfl, fun j hj => one_new w v e j _ (List.getElem?_eq_getElem hj)⟩
theorem lies_row (h : w.ownsRow B e 1 (.slice A t c) t xs) : Lies w A xs := fun hn => by
  have hl := h.1
  obtain ⟨g, rfl⟩ := row_some h (by omega)
  refine ⟨_, rfl, fun j hj => ?_⟩
  rw [Addr.add_lit, Nat.zero_add, h.cellAt j (by omega)]
  exact List.getElem?_eq_getElem hj
theorem lies_take (h : Lies w A xs) (k : Nat) : Lies w A (xs.take k) := fun hn => by
  obtain ⟨ad, e, hc⟩ := h (by simp at hn; omega)
  refine ⟨ad, e, fun j hj => ?_⟩
  rw [List.getElem_take]
  exact hc j (by simp at hj; omega)
theorem lies_drop {bl o : Nat} (h : Lies w (some ⟨bl, o, none⟩) xs) (k : Nat) : Lies w (some ⟨bl, o + k, none⟩) (xs.drop k) := fun hn => by
  obtain ⟨ad, e, hc⟩ := h (by simp at hn; omega)
  cases e
  refine ⟨_, rfl, fun j hj => ?_⟩
  have := hc (k + j) (by simp at hj; omega)
  rw [List.getElem_drop]
  rw [Addr.add_lit] at this ⊢
  rw [Nat.add_assoc]
  exact this
theorem append0 {sl : TypeId} (ht : Try.prog.underlying sl = some (.slice e)) {zv : Value} (hinfo : ∃ i, Try.prog.info? e = some i ∧ i.zero = some zv ∧ i.size = 1 ∧ i.bytes = 8) (w : World) (ty : TypeId) (A : Option Addr) (n c : Nat) (hn : n ≤ c) (B : Option Addr) (mc : Nat) : (Builtin.append_ #[sl, sl] ty #[.slice A n c, .slice B 0 mc]).run Try.prog w = .ok (.slice A n c) w := by
  obtain ⟨i, hi, hz, hs, hb⟩ := hinfo
  have hl : ∀ (x : Addr), (loadCells x 0).run Try.prog w = .ok #[] w := fun x => by simpa using run_loadCells_list (P := Try.prog) w x [] (by simp)
  cases A <;> cases B <;> simp [Builtin.append_, run_underlying ht, Builtin.lenOf, Builtin.firstCells, sizeOf, typeInfo, hi, hs, hn, hl, storeCells]
/-- Things are appended, none of them perhaps, to a list of one's own. -/
theorem app_gen {sl : TypeId} (ht : Try.prog.underlying sl = some (.slice e)) {zv : Value} (hinfo : ∃ i, Try.prog.info? e = some i ∧ i.zero = some zv ∧ i.size = 1 ∧ i.bytes = 8) (hz1 : zv.cells.size = 1)
    {ops : Array Oper} {rest : List Oper} {o : Oper} {a : Act} {Q : Exit → Act → World → Prop} (hgd : o.guard = none) (s x : Operand) (ho : o.op = .call { callee := .builtin .append, args := #[s, x], argTypes := #[sl, sl] })
    (w : World) (B : Nat) (A : Option Addr) (t c : Nat) (xs : List Value) (hs : a.eval s = .slice A t c) (hown : w.ownsRow B e 1 (.slice A t c) t xs)
    (A2 : Option Addr) (m c2 : Nat) (S : List Value) (hx : a.eval x = .slice A2 m c2) (hm : m = S.length) (hR : Lies w A2 S) (hone : ∀ u ∈ S, u.oneCell' = true) (h1 : t + m ≤ 1000000) (hB : B ≤ w.heap.size)
    (h : ∀ A' c' w', w'.ownsRow B e 1 (.slice A' (t + m) c') (t + m) (xs ++ S) → Kept w w' (rowD A) → (∀ x, rowD A' x → rowD A x ∨ x = w.heap.size) → wpList Try.prog ops Q rest (a.put o.dst (.slice A' (t + m) c')) w') : wpList Try.prog ops Q (o :: rest) a w := by
  rcases Nat.eq_zero_or_pos m with h0 | h0
  · subst h0
    have hS : S = [] := List.length_eq_zero_iff.1 hm.symm
    refine Lib.wpList_append_run w hgd s x _ _ ho (.slice A t c) (.slice A2 0 c2) hs hx (.slice A t c) w (append0 ht hinfo w _ A t c (row_cap hown) A2 c2) ?_
    exact h A c w (by rw [hS, List.append_nil]; exact hown) (Kept.refl _ _) (fun x hx => .inl hx)
  · obtain ⟨ad, rfl, hc⟩ := hR (by omega)
    obtain ⟨i, hi, hi0, hi1, hi2⟩ := hinfo
    refine wpList_append_lies w hgd s x sl ho B e i zv 1 8 ht hi hi0 hi1 hi2 hz1 (by decide) (.slice A t c) t xs hs hown ad m c2 S hx (by omega) (fun j u hu => by obtain ⟨hj, rfl⟩ := List.getElem?_eq_some_iff.1 hu; exact hc j hj) hone h0 (by unfold maxLen; omega) (by omega) hB _ rfl ?_
    intro g1 c1 w' hrow hgr hat hlt
    refine h _ _ w' hrow ((Kept.refl w _).grown hgr (fun x e _ => own_D e)) (fun x hx => ?_)
    rw [rowD_some hx]
    exact hat.imp own_D id
end
/-- A number is appended to a list of numbers. -/
theorem app_u {ops : Array Oper} {rest : List Oper} {o : Oper} {a : Act} {Q : Exit → Act → World → Prop} (hgd : o.guard = none) (s x : Operand) (ho : o.op = .call { callee := .builtin .append, args := #[s, x], argTypes := #[30, 30] })
    (w : World) (B : Nat) (A : Option Addr) (t c : Nat) (xs : List Value) (hs : a.eval s = .slice A t c) (hown : w.ownsRow B 31 1 (.slice A t c) t xs)
    (A2 : Option Addr) (m c2 : Nat) (S : List Value) (hx : a.eval x = .slice A2 m c2) (hm : m = S.length) (hR : Lies w A2 S) (hone : ∀ u ∈ S, u.oneCell' = true) (h1 : t + m ≤ 1000000) (hB : B ≤ w.heap.size)
    (h : ∀ A' c' w', w'.ownsRow B 31 1 (.slice A' (t + m) c') (t + m) (xs ++ S) → Kept w w' (rowD A) → (∀ x, rowD A' x → rowD A x ∨ x = w.heap.size) → wpList Try.prog ops Q rest (a.put o.dst (.slice A' (t + m) c')) w') : wpList Try.prog ops Q (o :: rest) a w :=
  app_gen Try.underlying30 infoU rfl hgd s x ho w B A t c xs hs hown A2 m c2 S hx hm hR hone h1 hB h
theorem app_i {ops : Array Oper} {rest : List Oper} {o : Oper} {a : Act} {Q : Exit → Act → World → Prop} (hgd : o.guard = none) (s x : Operand) (ho : o.op = .call { callee := .builtin .append, args := #[s, x], argTypes := #[27, 27] })
    (w : World) (B : Nat) (A : Option Addr) (t c : Nat) (xs : List Value) (hs : a.eval s = .slice A t c) (hown : w.ownsRow B 3 1 (.slice A t c) t xs)
    (A2 : Option Addr) (m c2 : Nat) (S : List Value) (hx : a.eval x = .slice A2 m c2) (hm : m = S.length) (hR : Lies w A2 S) (hone : ∀ u ∈ S, u.oneCell' = true) (h1 : t + m ≤ 1000000) (hB : B ≤ w.heap.size)
    (h : ∀ A' c' w', w'.ownsRow B 3 1 (.slice A' (t + m) c') (t + m) (xs ++ S) → Kept w w' (rowD A) → (∀ x, rowD A' x → rowD A x ∨ x = w.heap.size) → wpList Try.prog ops Q rest (a.put o.dst (.slice A' (t + m) c')) w') : wpList Try.prog ops Q (o :: rest) a w :=
  app_gen Try.underlying27 infoI rfl hgd s x ho w B A t c xs hs hown A2 m c2 S hx hm hR hone h1 hB h
end Go.Proofs.Ytbkdlblpoohliaa.T13
