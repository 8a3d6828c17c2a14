/-
  A Store beside the document's chunks, which stand in a variable; a list of one's own.
-/
import Derived.Test.YtmboibipabkhaaaGreatKxPd10
import Derived.Test.YtmboibipabkhaaaGreatKxW10
import Derived.Test.YtmboibipabkhaaaGreatKxK1
import Derived.Test.YtmboibipabkhaaaGreatKxArg10
import Derived.Test.YtmboibipabkhaaaGreatKxV10
namespace Go.Proofs.YtmboibipabkhaaaGreat
open Go.ChangeShapes Go.WideShapes Go.ChangeAt Go.RowKit Go.Deep
set_option linter.unusedVariables false
set_option maxRecDepth 20000
structure Dcb (w wr : World) (P : Nat) (Z : St) (d : Dc) (m g s : Nat) (Q D : Nat → Prop) : Prop where
 doc : Doc wr Z d m
 bx : Bxn wr g (dcs P Z d)
 qo : ∀ x, Q x → Dof Z d x
 gD : D g
 own : ∀ x, D x → Dof Z d x ∧ ¬ Q x ∧ x ≠ s ∧ w.heap.size ≤ x ∧ x < wr.heap.size
section
variable {w wr w' w3 : World} {P m m' g s a b c k : Nat} {Z Z' Zp : St} {d d' : Dc} {Q D D' O : Nat → Prop}
theorem Dcb.below (h : Dcb w wr P Z d m g s Q D) (hb : Below wr.heap.size wr w') : Dcb w w' P Z d m g s Q D :=
 ⟨h.doc.below hb, h.bx.below (by simp) hb, h.qo, h.gD, fun x hx => ⟨(h.own x hx).1, (h.own x hx).2.1, (h.own x hx).2.2.1, (h.own x hx).2.2.2.1, Nat.lt_of_lt_of_le (h.own x hx).2.2.2.2 hb.size⟩⟩
theorem Dcb.more (h : Dcb w wr P Z d m g s Q D) (hm : m ≤ m') : Dcb w wr P Z d m' g s Q D := ⟨h.doc.more hm, h.bx, h.qo, h.gD, h.own⟩
theorem Dcb.call (h : Dcb w wr P Z d m g s Q D) (hk : Kept wr w' Q) : Dcb w w' P Z d m g s (Wid Q wr w') D := by
 refine ⟨h.doc.kept' hk h.qo, h.bx.kept (by simp) hk (h.own g h.gD).2.1, Dof.wid h.doc h.qo, h.gD, fun x hx => ?_⟩
 have ho := h.own x hx
 exact ⟨ho.1, fun e => e.elim ho.2.1 (fun e => by omega), ho.2.2.1, ho.2.2.2.1, Nat.lt_of_lt_of_le ho.2.2.2.2 hk.size⟩
theorem Dcb.side (h : Dcb w wr P Z d m g s Q D) (hk : Kept wr w' O) (hO : ∀ x, O x → D x ∧ x ≠ g) (hQ : ∀ x, Q x → x < wr.heap.size) (hs : s < wr.heap.size) (hw : w.heap.size ≤ wr.heap.size) (h1 : ∀ x, D' x → D x ∨ (wr.heap.size ≤ x ∧ x < w'.heap.size)) (h2 : D' g) : Dcb w w' P Z d m g s Q D' := by
 refine ⟨h.doc.kept' hk (fun x hx => (h.own x (hO x hx).1).1), h.bx.kept (by simp) hk (fun e => (hO g e).2 rfl), h.qo, h2, fun x hx => ?_⟩
 rcases h1 x hx with hx | ⟨hx, hx2⟩
 ·have ho := h.own x hx
  exact ⟨ho.1, ho.2.1, ho.2.2.1, ho.2.2.2.1, Nat.lt_of_lt_of_le ho.2.2.2.2 hk.size⟩
 ·exact ⟨h.doc.fresh hx, fun e => by have := hQ x e; omega, by omega, by omega, hx2⟩
theorem db_ans (hc : Chk D w wr s a b c P Zp Q k) (h : Dcb w wr P Z d m g s Q D) (hd : Doc w' Z' d' m') (hb : Below wr.heap.size wr w') (mv : ∀ x, x < wr.heap.size → Dof Z d x → Dof Z' d' x) (h2 : Below w'.heap.size w' w3) (hg : Bxn w3 g (dcs P Z d)) :
  Chk D w (((((((w3.setCell ⟨g, 0, none⟩ (.int .i64 (P : Int))).setCell ⟨g, 1, none⟩ (.slice d'.A d'.n d'.c)).setCell ⟨g, 2, none⟩ (.int .i64 (Z'.u : Int))).setCell ⟨g, 3, none⟩ (.int .i64 (P : Int))).setCell ⟨g, 4, none⟩ (.slice d'.Al d'.z d'.cl)).setCell ⟨g, 5, none⟩ (.int .i64 Z'.T)).setCell ⟨g, 6, none⟩ (.slice d'.Ak d'.zk d'.ck)) s a b c P Zp Q k ∧
  Dcb w (((((((w3.setCell ⟨g, 0, none⟩ (.int .i64 (P : Int))).setCell ⟨g, 1, none⟩ (.slice d'.A d'.n d'.c)).setCell ⟨g, 2, none⟩ (.int .i64 (Z'.u : Int))).setCell ⟨g, 3, none⟩ (.int .i64 (P : Int))).setCell ⟨g, 4, none⟩ (.slice d'.Al d'.z d'.cl)).setCell ⟨g, 5, none⟩ (.int .i64 Z'.T)).setCell ⟨g, 6, none⟩ (.slice d'.Ak d'.zk d'.ck)) P Z' d' m' g s Q D ∧
  Kept wr (((((((w3.setCell ⟨g, 0, none⟩ (.int .i64 (P : Int))).setCell ⟨g, 1, none⟩ (.slice d'.A d'.n d'.c)).setCell ⟨g, 2, none⟩ (.int .i64 (Z'.u : Int))).setCell ⟨g, 3, none⟩ (.int .i64 (P : Int))).setCell ⟨g, 4, none⟩ (.slice d'.Al d'.z d'.cl)).setCell ⟨g, 5, none⟩ (.int .i64 Z'.T)).setCell ⟨g, 6, none⟩ (.slice d'.Ak d'.zk d'.ck)) (fun x => x = g) := by
 have hk := kept_set7 w3 g (.int .i64 (P : Int)) (.slice d'.A d'.n d'.c) (.int .i64 (Z'.u : Int)) (.int .i64 (P : Int)) (.slice d'.Al d'.z d'.cl) (.int .i64 Z'.T) (.slice d'.Ak d'.zk d'.ck)
 have hy := hg.set7 (.int .i64 (P : Int)) (.slice d'.A d'.n d'.c) (.int .i64 (Z'.u : Int)) (.int .i64 (P : Int)) (.slice d'.Al d'.z d'.cl) (.int .i64 Z'.T) (.slice d'.Ak d'.zk d'.ck)
 have b3 := below_call hb h2
 have hg0 := h.own g h.gD
 have kk : Kept wr _ (fun x => x = g) := (Kept.of_below b3 (fun x => x = g)).trans hk (fun _ _ e => e)
 have hdof : ∀ x, x < wr.heap.size → Dof Z d x → Dof Z' d' x := mv
 refine ⟨hc.other kk (fun x hx => by subst hx; exact ⟨hg0.2.1, hg0.2.2.1, hg0.2.2.2.1, fun e => hc.st.rs e x h.gD⟩) (fun x hx => .inl hx) (fun x hx => Nat.lt_of_lt_of_le (h.own x hx).2.2.2.2 kk.size), ⟨(hd.below h2).kept' hk (fun x hx => by subst hx; exact hdof _ hg0.2.2.2.2 hg0.1), hy, fun x hx => hdof x (hc.st.lt x hx) (h.qo x hx), h.gD, fun x hx => ?_⟩, kk⟩
 have ho := h.own x hx
 exact ⟨hdof x ho.2.2.2.2 ho.1, ho.2.1, ho.2.2.1, ho.2.2.2.1, Nat.lt_of_lt_of_le ho.2.2.2.2 kk.size⟩
end
/-! Lists of numbers. -/
theorem ielem10 : Tryz.prog.elem 36 = 3 := by kernel_rfl
theorem iund10 : Tryz.prog.underlying 36 = some (.slice (Tryz.prog.elem 36)) := by rw [ielem10]; exact Tryz.underlying36
theorem isize10 (W : World) : (Go.sizeOf 3).run Tryz.prog W = .ok 1 W := by
 obtain ⟨i, hi, hz, hs, hb⟩ := infoI
 simp [Go.sizeOf, typeInfo, hi, hs]
theorem icut10_to (bl o n cap i : Nat) (hi : i ≤ cap) (W : World) : (Instr.slice 36 (.slice (some ⟨bl, o, none⟩) n cap) none (some (.int .i64 (i : Int))) none).run Tryz.prog W = .ok (.slice (some ⟨bl, o, none⟩) i cap) W := by
 rw [run_slice_h W 36 (some ⟨bl, o, none⟩) n cap iund10 .i64 i (by omega) (by omega), ielem10, isize10]
 simp only [Result.andThen_ok, sliced, Int.toNat_natCast, Nat.sub_zero, Nat.zero_mul]
 split <;> simp [add_zero']
theorem icut10_from (bl o n cap i : Nat) (hi : i ≤ n) (hn : n ≤ cap) : ∃ A', (∀ W, (Instr.slice 36 (.slice (some ⟨bl, o, none⟩) n cap) (some (.int .i64 (i : Int))) none none).run Tryz.prog W = .ok (.slice A' (n - i) (cap - i)) W) ∧ (i < n → A' = some ⟨bl, o + i, none⟩) := by
 refine ⟨if cap = i then some ⟨bl, o, none⟩ else (some ⟨bl, o, none⟩ : Option Addr).map (·.add (i * 1)), fun W => by rw [run_slice_l W 36 (some ⟨bl, o, none⟩) n cap iund10 .i64 i (by omega) (by omega), ielem10, isize10]; simp only [Result.andThen_ok, sliced, Int.toNat_natCast], fun h => ?_⟩
 rw [if_neg (by omega)]
 simp [Addr.add_lit]
def NumsAt (w : World) (A : Option Addr) (xs : List Int) : Prop := 0 < xs.length → ∃ bl o, A = some ⟨bl, o, none⟩ ∧ ∀ (i : Nat) (hi : i < xs.length), w.cell? ⟨bl, o + i, none⟩ = some (.int .i64 xs[i])
section
variable {w w' : World} {B t c s : Nat} {A : Option Addr} {ps : List Int} {Q : Nat → Prop}
theorem NumsAt.below (h : NumsAt w A ps) (hb : Below w.heap.size w w') : NumsAt w' A ps := fun hl => by
 obtain ⟨bl, o, e, hc⟩ := h hl
 exact ⟨bl, o, e, fun i hi => (hb.cell (p := ⟨bl, o + i, none⟩) (lt_of_cell (hc i hi))).trans (hc i hi)⟩
theorem NumsAt.of (h : Lst w 3 1 B A t c (ints10 ps) Q s) : NumsAt w A ps := fun hl => by
 obtain ⟨g, rfl, h0⟩ := h.cell hl
 refine ⟨g, 0, rfl, fun i hi => ?_⟩
 obtain ⟨g', e, hc⟩ := h.cell hi
 cases e
 rw [Nat.zero_add]
 exact hc
theorem NumsAt.take (h : NumsAt w A ps) (k : Nat) : NumsAt w A (ps.take k) := fun hl => by
 obtain ⟨bl, o, e, hc⟩ := h (by simp at hl; omega)
 refine ⟨bl, o, e, fun i hi => ?_⟩
 have hi' : i < ps.length := by simp at hi; omega
 rw [List.getElem_take]
 exact hc i hi'
theorem NumsAt.drop {bl o : Nat} (h : NumsAt w (some ⟨bl, o, none⟩) ps) (k : Nat) : NumsAt w (some ⟨bl, o + k, none⟩) (ps.drop k) := fun hl => by
 obtain ⟨bl', o', e, hc⟩ := h (by simp at hl; omega)
 cases e
 refine ⟨bl, _, rfl, fun i hi => ?_⟩
 have hi' : k + i < ps.length := by simp at hi; omega
 rw [List.getElem_drop, Nat.add_assoc]
 exact hc (k + i) hi'
end
theorem nums_cells {w : World} {bl o : Nat} {xs : List Int} (hc : ∀ (i : Nat) (hi : i < xs.length), w.cell? ⟨bl, o + i, none⟩ = some (.int .i64 xs[i])) : ∀ j u, (ints10 xs)[j]? = some u → w.cell? ⟨bl, o + j, none⟩ = some u := fun j u hu => by
 unfold ints10 at hu
 rw [List.getElem?_map] at hu
 obtain ⟨x, hx, rfl⟩ := Option.map_eq_some_iff.1 hu
 obtain ⟨hj, rfl⟩ := List.getElem?_eq_some_iff.1 hx
 exact hc j hj
theorem ints10_append (xs ys : List Int) : ints10 (xs ++ ys) = ints10 xs ++ ints10 ys := by simp [ints10]
theorem append0_i (w : World) (ty : TypeId) (A : Option Addr) (n c : Nat) (hn : n ≤ c) (B : Option Addr) (mc : Nat) : (Builtin.append_ #[36, 36] ty #[.slice A n c, .slice B 0 mc]).run Tryz.prog w = .ok (.slice A n c) w := by
 obtain ⟨i, hi, hz, hs, hb⟩ := infoI
 have hl : ∀ (x : Addr), (loadCells x 0).run Tryz.prog w = .ok #[] w := fun x => by simpa using run_loadCells_list (P := Tryz.prog) w x [] (by simp)
 cases A <;> cases B <;> simp [Builtin.append_, run_underlying Tryz.underlying36, Builtin.lenOf, Builtin.firstCells, sizeOf, typeInfo, hi, hs, hn, hl, storeCells]
theorem wpList_app_ints {ops : Array Oper} {rest : List Oper} {o : Oper} {a : Act} {Q : Exit → Act → World → Prop} (hgd : o.guard = none) (s x : Operand) (ho : o.op = .call { callee := .builtin .append, args := #[s, x], argTypes := #[36, 36] })
  (w : World) (B : Nat) (A : Option Addr) (t c : Nat) (xs : List Int) (hs : a.eval s = .slice A t c) (hown : w.ownsRow B 3 1 (.slice A t c) t (ints10 xs))
  (A2 : Option Addr) (m c2 : Nat) (S : List Int) (hx : a.eval x = .slice A2 m c2) (hm : m = S.length) (hR : NumsAt w A2 S) (h1 : t + m ≤ 1000000) (hB : B ≤ w.heap.size)
  (h : ∀ A' c' w', w'.ownsRow B 3 1 (.slice A' (t + m) c') (t + m) (ints10 (xs ++ S)) → w.grownBy w' (Value.slice A t c).ownBlock → wpList Tryz.prog ops Q rest (a.put o.dst (.slice A' (t + m) c')) w') : wpList Tryz.prog ops Q (o :: rest) a w := by
 rcases Nat.eq_zero_or_pos m with h0 | h0
 ·subst h0
  have hS : S = [] := List.length_eq_zero_iff.1 hm.symm
  have hc : t ≤ c := (row_cap hown).elim id (fun e => by omega)
  refine Lib.wpList_append_run w hgd s x _ _ ho (.slice A t c) (.slice A2 0 c2) hs hx (.slice A t c) w (append0_i w _ A t c hc A2 c2) ?_
  have := h A c w (by rw [hS, List.append_nil]; exact hown) (World.grownBy.refl _ _)
  exact this
 ·obtain ⟨bl, o2, rfl, hc⟩ := hR (by omega)
  obtain ⟨i, hi, hi0, hi1, hi2⟩ := infoI
  refine wpList_append_lies w hgd s x 36 ho B 3 i (.int .i64 0) 1 8 Tryz.underlying36 hi hi0 hi1 hi2 rfl (by decide) (.slice A t c) t (ints10 xs) hs hown ⟨bl, o2, none⟩ m c2 (ints10 S) hx (by rw [ints10_length, hm, Nat.mul_one]) (fun j u hu => by rw [Addr.add_lit]; exact nums_cells hc j u hu) (ints10_one _) h0 (by unfold maxLen; omega) (by omega) hB _ rfl ?_
  intro g1 c1 w' hrow hgr _ _
  exact h _ _ w' (by rw [ints10_append]; exact hrow) hgr
theorem wpList_app_new {ops : Array Oper} {rest : List Oper} {o : Oper} {a : Act} {Q : Exit → Act → World → Prop} (hgd : o.guard = none) (s x : Operand) (ho : o.op = .call { callee := .builtin .append, args := #[s, x], argTypes := #[36, 36] })
  (w : World) (hs : a.eval s = .slice none 0 0)
  (A2 : Option Addr) (m c2 : Nat) (S : List Int) (hx : a.eval x = .slice A2 m c2) (hm : m = S.length) (hR : NumsAt w A2 S) (h1 : m ≤ 1000000)
  (h : ∀ A' c' w', w'.ownsRow w.heap.size 3 1 (.slice A' m c') m (ints10 S) → Below w.heap.size w w' → wpList Tryz.prog ops Q rest (a.put o.dst (.slice A' m c')) w') : wpList Tryz.prog ops Q (o :: rest) a w := by
 have hown : w.ownsRow w.heap.size 3 1 (.slice none 0 0) 0 (ints10 []) := ⟨rfl, .inl ⟨rfl, rfl⟩⟩
 refine wpList_app_ints hgd s x ho w w.heap.size none 0 0 [] hs hown A2 m c2 S hx hm hR (by omega) (Nat.le_refl _) (fun A' c' w' hrow hgr => ?_)
 have e : 0 + m = m := Nat.zero_add m
 rw [e] at hrow ⊢
 exact h A' c' w' hrow ((Below.refl _ w).grown hgr (Nat.le_refl _) (fun x hx => by simp [Value.ownBlock] at hx))
theorem below_apI {w w' : World} {B t c e z : Nat} {A : Option Addr} {xs : List Value} (hown : w.ownsRow B e z (.slice A t c) t xs) (hgr : w.grownBy w' (Value.slice A t c).ownBlock) (hB : B ≤ w.heap.size) : Below B w w' :=
 (Below.refl B w).grown hgr hB (fun x hx => (row_low hown (own_D hx)).1)
/-! What stands behind some acts. -/
def pgs (G : List M.R) : List Value := ints10 (G.map (·.p))
theorem perm_at10 {G : List M.R} (q : Nat) (h : q < G.length) : G.Perm (G[q] :: (G.take q ++ G.drop (q + 1))) := by
 have e : G = G.take q ++ (G[q] :: G.drop (q + 1)) := by rw [List.getElem_cons_drop, List.take_append_drop]
 conv => lhs; rw [e]
 exact List.perm_middle
structure Ps (w wr : World) (s a b c N k m t cc : Nat) (A : Option Addr) (Zp Zd : St) (d : Dc) (g : Nat) (Q D : Nat → Prop) (G : List M.R) : Prop where
 chk : Chk D w wr s a b c N Zp Q k
 dcb : Dcb w wr N Zd d m g s Q D
 lst : Lst wr 3 1 w.heap.size A t cc (pgs G) Q s
 dA : ∀ x, rowD A x → D x
 gA : ¬ rowD A g
section
variable {w wr w' w3 : World} {s a b c N k k' m m' t t' cc c1 g y g1 : Nat} {A A' : Option Addr} {Zp Zd Z' : St} {d d' : Dc} {Q D : Nat → Prop} {G G' : List M.R} {x : Act10} {r : M.R}
theorem IsAct.kept (h : IsAct w y 0 x) {O : Nat → Prop} (hk : Kept w wr O) (hO : ¬ O y) : IsAct wr y 0 x :=
 ⟨hk.cell_some h.c0 hO, hk.cell_some h.c1 hO, hk.cell_some h.c2 hO, hk.cell_some h.c3 hO, hk.cell_some h.c4 hO, h.d8, h.pr, h.kr, h.or, h.ir⟩
theorem Ps.tl (h : Ps w wr s a b c N k m t cc A Zp Zd d g Q D G) : t = G.length := by have := h.lst.row.1; unfold pgs at this; rw [ints10_length, List.length_map] at this; omega
theorem Ps.below (h : Ps w wr s a b c N k m t cc A Zp Zd d g Q D G) (hb : Below wr.heap.size wr w') : Ps w w' s a b c N k m t cc A Zp Zd d g Q D G :=
 ⟨h.chk.below hb, h.dcb.below hb, h.lst.below hb, h.dA, h.gA⟩
theorem Ps.more (h : Ps w wr s a b c N k m t cc A Zp Zd d g Q D G) (hk : k ≤ k') (hm : m ≤ m') : Ps w wr s a b c N k' m' t cc A Zp Zd d g Q D G :=
 ⟨h.chk.more hk, h.dcb.more hm, h.lst, h.dA, h.gA⟩
theorem Ps.var (h : Ps w wr s a b c N k m t cc A Zp Zd d g Q D G) (o : Obj) : Ps w (wr.alloc o) s a b c N k m t cc A Zp Zd d g Q (fun x => D x ∨ x = wr.heap.size) G := by
 have hb := (Below.refl wr.heap.size wr).alloc (Nat.le_refl _) o
 have hk := Kept.of_below hb (fun _ => False)
 have hs : (wr.alloc o).heap.size = wr.heap.size + 1 := by simp
 refine ⟨h.chk.other hk (fun x e => e.elim) (fun x hx => hx.imp id (fun e => by omega)) (fun x hx => hx.elim (fun e => Nat.lt_of_lt_of_le (h.chk.st.dl x e) hb.size) (fun e => by omega)), ?_, h.lst.below hb, fun x hx => .inl (h.dA x hx), h.gA⟩
 exact h.dcb.side hk (fun x e => e.elim) h.chk.st.lt h.chk.bx.lt h.chk.bel.size (fun x hx => hx.imp id (fun e => ⟨by omega, by omega⟩)) (.inl h.dcb.gD)
theorem Ps.call (h : Ps w wr s a b c N k m t cc A Zp Zd d g Q D G) (hc : Chk D w w' s a b c N Z' (Wid Q wr w') k') (hk : Kept wr w' Q) : Ps w w' s a b c N k' m t cc A Z' Zd d g (Wid Q wr w') D G :=
 ⟨hc, h.dcb.call hk, h.lst.call hk, h.dA, h.gA⟩
theorem Ps.ans (h : Ps w wr s a b c N k m t cc A Zp Zd d g Q D G) (hd : Doc w' Z' d' m') (hb : Below wr.heap.size wr w') (mv : ∀ x, x < wr.heap.size → Dof Zd d x → Dof Z' d' x) (h2 : Below w'.heap.size w' w3) :
  Ps w (((((((w3.setCell ⟨g, 0, none⟩ (.int .i64 (N : Int))).setCell ⟨g, 1, none⟩ (.slice d'.A d'.n d'.c)).setCell ⟨g, 2, none⟩ (.int .i64 (Z'.u : Int))).setCell ⟨g, 3, none⟩ (.int .i64 (N : Int))).setCell ⟨g, 4, none⟩ (.slice d'.Al d'.z d'.cl)).setCell ⟨g, 5, none⟩ (.int .i64 Z'.T)).setCell ⟨g, 6, none⟩ (.slice d'.Ak d'.zk d'.ck)) s a b c N k m' t cc A Zp Z' d' g Q D G ∧
  Kept wr (((((((w3.setCell ⟨g, 0, none⟩ (.int .i64 (N : Int))).setCell ⟨g, 1, none⟩ (.slice d'.A d'.n d'.c)).setCell ⟨g, 2, none⟩ (.int .i64 (Z'.u : Int))).setCell ⟨g, 3, none⟩ (.int .i64 (N : Int))).setCell ⟨g, 4, none⟩ (.slice d'.Al d'.z d'.cl)).setCell ⟨g, 5, none⟩ (.int .i64 Z'.T)).setCell ⟨g, 6, none⟩ (.slice d'.Ak d'.zk d'.ck)) (fun x => x = g) := by
 have q := db_ans h.chk h.dcb hd hb mv h2 ((h.dcb.bx.below (by simp) hb).below (by simp) h2)
 refine ⟨⟨q.1, q.2.1, ⟨row_kept h.lst.row q.2.2 (fun x hx e => h.gA (e ▸ hx)), h.lst.off⟩, h.dA, h.gA⟩, q.2.2⟩
theorem Ps.app (h : Ps w wr s a b c N k m t cc A Zp Zd d g Q D G) (hrow : w'.ownsRow w.heap.size 3 1 (.slice (some ⟨g1, 0, none⟩) (t + 1) c1) (t + 1) (pgs G ++ ints10 [r.p])) (hgr : wr.grownBy w' (Value.slice A t cc).ownBlock) (hat : (Value.slice A t cc).ownBlock = some g1 ∨ g1 = wr.heap.size) (hlt : g1 < w'.heap.size) :
  Ps w w' s a b c N k m (t + 1) c1 (some ⟨g1, 0, none⟩) Zp Zd d g Q (fun x => D x ∨ x = g1) (G ++ [r]) := by
 have hk : Kept wr w' (rowD A) := (Kept.refl wr _).grown hgr (fun x e _ => own_D e)
 have hd : rowD A g1 ∨ g1 = wr.heap.size := hat.imp own_D id
 have one : ∀ x, rowD (some ⟨g1, 0, none⟩) x → x = g1 := fun x hx => by obtain ⟨ad, e, rfl⟩ := hx; cases e; rfl
 have hgl : g < wr.heap.size := (h.dcb.own g h.dcb.gD).2.2.2.2
 refine ⟨h.chk.other hk (fun x hx => ⟨(h.lst.off x hx).1, (h.lst.off x hx).2, (row_low h.lst.row hx).1, fun e => h.chk.st.rs e x (h.dA x hx)⟩) (fun x hx => ?_) (fun x hx => ?_), ?_, ⟨?_, fun x hx => ?_⟩, fun x hx => .inr (one x hx), fun hx => ?_⟩
 ·rcases hx with hx | rfl
  ·exact .inl hx
  ·exact hd.imp (h.dA x) (fun e => by omega)
 ·rcases hx with hx | rfl
  ·exact Nat.lt_of_lt_of_le (h.chk.st.dl x hx) hk.size
  ·exact hlt
 ·refine h.dcb.side hk (fun x hx => ⟨h.dA x hx, fun e => h.gA (e ▸ hx)⟩) h.chk.st.lt h.chk.bx.lt h.chk.bel.size (fun x hx => ?_) (.inl h.dcb.gD)
  rcases hx with hx | rfl
  ·exact .inl hx
  ·exact hd.imp (h.dA x) (fun e => ⟨by omega, hlt⟩)
 ·unfold pgs at *
  rw [List.map_append, ints10_append]
  exact hrow
 ·rw [one x hx]
  rcases hd with e | e
  ·exact h.lst.off g1 e
  ·exact ⟨fun q => by have := h.chk.st.lt _ q; omega, fun e => by have := h.chk.bx.lt; omega⟩
 ·have e := one g hx
  rcases hd with e2 | e2
  ·exact h.gA (e ▸ e2)
  ·omega
theorem Ps.swap (h : Ps w wr s a b c N k m t cc A Zp Zd d g Q D G) (hb : Below wr.heap.size wr w') (hrow : w'.ownsRow wr.heap.size 3 1 (.slice A' t' c1) t' (pgs G')) :
  Ps w w' s a b c N k m t' c1 A' Zp Zd d g Q (fun x => D x ∨ rowD A' x) G' := by
 have hk := Kept.of_below hb (fun _ => False)
 have hgl : g < wr.heap.size := (h.dcb.own g h.dcb.gD).2.2.2.2
 refine ⟨h.chk.other hk (fun x e => e.elim) (fun x hx => hx.imp id (fun e => (row_low hrow e).1)) (fun x hx => hx.elim (fun e => Nat.lt_of_lt_of_le (h.chk.st.dl x e) hb.size) (fun e => (row_low hrow e).2)), ?_, ⟨⟨hrow.1, ?_⟩, fun x hx => ?_⟩, fun x hx => .inr hx, fun hx => ?_⟩
 ·exact h.dcb.side hk (fun x e => e.elim) h.chk.st.lt h.chk.bx.lt h.chk.bel.size (fun x hx => hx.imp id (fun e => row_low hrow e)) (.inl h.dcb.gD)
 ·rcases hrow.2 with e | ⟨g, cap, cur, e1, e2, e3⟩
  ·exact .inl e
  ·exact .inr ⟨g, cap, cur, e1, Nat.le_trans h.chk.bel.size e2, e3⟩
 ·have := (row_low hrow hx).1
  exact ⟨fun q => by have := h.chk.st.lt _ q; omega, fun e => by have := h.chk.bx.lt; omega⟩
 ·have := (row_low hrow hx).1
  omega
end
theorem pgs_put {G : List M.R} (q : Nat) : pgs (G.take q ++ G.drop (q + 1)) = ints10 ((G.map (·.p)).take q ++ (G.map (·.p)).drop (q + 1)) := by unfold pgs; rw [List.map_append, List.map_take, List.map_drop]
theorem same_eq10 (w : World) (A A' : Option Addr) (l : List M.R) (z c z' c' : Nat) (hz : z = l.length) (hz' : z' = l.length) (hA : Runs w A l) (hA' : Runs w A' l) (hl : z ≤ 9223372036854775807) :
  Calls Tryz.prog 13 #[.slice A z c, .slice A' z' c'] w fun e w' => e = .returned (.bool true) ∧ Below w.heap.size w w' := by
 refine (same_any w A A' l l z c z' c' hz hz' hA hA' hl).mono ?_
 rintro e w' ⟨rfl, hb⟩
 exact ⟨by simp, hb⟩
/-! How long lists get. -/
theorem len_get {P : Nat} {Z : St} (hg : M.Good Z.K) (p kd : Int) (o : Nat) : (Z.gt P p kd o).l.length + (M.all (Z.gt P p kd o).K).length ≤ Z.l.length + (M.all Z.K).length := by
 unfold St.gt
 split
 ·have := fd_len (P := P) (l := Z.l) (K := Z.K) (T := Z.T) (c := M.cls p) (n := M.ckN p) hg
  unfold St.get
  split
  ·exact this
  ·exact this
 ·exact Nat.le_refl _
theorem len_put {P : Nat} {Z : St} (p n : Int) : (Z.put P p n).l.length + (M.all (Z.put P p n).K).length ≤ Z.l.length + (M.all Z.K).length + 1 := by
 unfold St.put ptL ptKy
 by_cases h : ptK Z.K p n = true
 ·rw [if_pos h, if_pos h]
  unfold ptK at h
  simp only [Bool.and_eq_true] at h
  have := (M.all_push Z.K (M.cls n) p h.2).length_eq
  simp only [List.length_cons] at this ⊢
  omega
 ·rw [if_neg h, if_neg h]
  have := gvL_length (P := P) (l := Z.l) (p := p) (n := n)
  simp only
  omega
theorem len_trim {P : Nat} {Z : St} : (Z.trim P).l.length + (M.all (Z.trim P).K).length ≤ Z.l.length + (M.all Z.K).length := by
 have := giveAll_length (P := P) (M.all Z.K) Z.l Z.T
 show (giveAll P (M.all Z.K) Z.l Z.T).1.length + (M.all M.empty).length ≤ _
 rw [M.all_empty]
 simpa using this
end Go.Proofs.YtmboibipabkhaaaGreat
