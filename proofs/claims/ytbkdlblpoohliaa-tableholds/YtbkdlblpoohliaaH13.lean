/-
  Two tables that go alike, and the lists of their handles and things.
-/
import Derived.Test.YtbkdlblpoohliaaA13
import Derived.Test.YtbkdlblpoohliaaStdA
import Derived.Test.YtbkdlblpoohliaaArg13
import Derived.Test.YtbkdlblpoohliaaP13
import Derived.Test.YtbkdlblpoohliaaSm13
namespace Go.Proofs.Ytbkdlblpoohliaa
open Go.ChangeShapes Go.WideShapes Go.ChangeAt Go.RowKit Go.Deep T13
set_option linter.unusedVariables false
set_option maxRecDepth 20000

abbrev xy13 : TA.Th := (⟨#[120]⟩, ⟨#[121]⟩)
/-- Two pairs of strings that are the same. -/
theorem eq_xy (W : World) : (Op.equalIn 10000 68 (.agg #[.string { data := #[120] }, .string { data := #[121] }]) (.agg #[.string { data := #[120] }, .string { data := #[121] }])).run Try.prog W = .ok true W := by kernel_rfl
/-- The memory: two tables, a list of handles, a list of numbers. -/
structure Co13 (w wr : World) (t u : Nat) (S : M.Tt TI.Th) (U : M.Tt TA.Th) (Q R : Nat → Prop) (k : Nat) (A : Option Addr) (n c : Nat) (xs : List Value) (V : Option Addr) (m d : Nat) (ys : List Value) : Prop where
  st : TI.Std w wr t 1 S Q k
  su : TA.Std w wr u 1 U R k
  qr : ∀ x, Q x → ¬ R x
  hl : Lst wr 31 w.heap.size A n c xs Q
  hr : ∀ x, rowD A x → ¬ R x
  vl : Lst wr 3 w.heap.size V m d ys Q
  vr : ∀ x, rowD V x → ¬ R x
/-- .. and a variable of the law's. -/
structure Ca13 (w wr : World) (t u : Nat) (S : M.Tt TI.Th) (U : M.Tt TA.Th) (Q R : Nat → Prop) (k : Nat) (A : Option Addr) (n c : Nat) (xs : List Value) (V : Option Addr) (m d : Nat) (ys : List Value) (y : Nat) (a : Act13) : Prop where
  co : Co13 w wr t u S U Q R k A n c xs V m d ys
  act : IsAct wr y 0 a
  yq : ¬ Q y
  yr : ¬ R y
  ya : ¬ rowD A y
  yv : ¬ rowD V y
section
variable {w wr w' : World} {t u k k' n c m d n' c' y : Nat} {S S' : M.Tt TI.Th} {U U' : M.Tt TA.Th} {Q R O : Nat → Prop} {A A' V V' : Option Addr} {xs xs' ys ys' : List Value} {a : Act13}
theorem Co13.below (h : Co13 w wr t u S U Q R k A n c xs V m d ys) (hb : Below wr.heap.size wr w') : Co13 w w' t u S U Q R k A n c xs V m d ys := ⟨h.st.below hb, h.su.below hb, h.qr, h.hl.below hb, h.hr, h.vl.below hb, h.vr⟩
theorem Co13.more (h : Co13 w wr t u S U Q R k A n c xs V m d ys) (hk : k ≤ k') : Co13 w wr t u S U Q R k' A n c xs V m d ys := ⟨h.st.more hk, h.su.more hk, h.qr, h.hl, h.hr, h.vl, h.vr⟩
theorem Co13.callT (h : Co13 w wr t u S U Q R k A n c xs V m d ys) (hs : TI.Std w w' t 1 S' (Wid Q wr w') k') (hk : Kept wr w' Q) (hkk : k ≤ k') : Co13 w w' t u S' U (Wid Q wr w') R k' A n c xs V m d ys :=
  ⟨hs, (h.su.kept hk (fun x hr hq => h.qr x hq hr) h.st.has.old).more hkk, fun x hx hr => hx.elim (fun e => h.qr x e hr) (fun e => by have := h.su.has.lt x hr; omega), h.hl.call hk, h.hr, h.vl.call hk, h.vr⟩
theorem Co13.callU (h : Co13 w wr t u S U Q R k A n c xs V m d ys) (hs : TA.Std w w' u 1 U' (Wid R wr w') k') (hk : Kept wr w' R) (hkk : k ≤ k') : Co13 w w' t u S U' Q (Wid R wr w') k' A n c xs V m d ys :=
  ⟨(h.st.kept hk h.qr h.su.has.old).more hkk, hs, fun x hq hx => hx.elim (h.qr x hq) (fun e => by have := h.st.has.lt x hq; omega), ⟨row_kept h.hl.row hk h.hr, h.hl.off⟩, fun x hx e => e.elim (h.hr x hx) (fun e => by have := (row_low h.hl.row hx).2; omega), ⟨row_kept h.vl.row hk h.vr, h.vl.off⟩, fun x hx e => e.elim (h.vr x hx) (fun e => by have := (row_low h.vl.row hx).2; omega)⟩
/-- The list of handles is another one, upon its block or a new one. -/
theorem Co13.appA (h : Co13 w wr t u S U Q R k A n c xs V m d ys) (hk : Kept wr w' (rowD A)) (hrow : w'.ownsRow w.heap.size 31 1 (.slice A' n' c') n' xs') (hat : ∀ x, rowD A' x → rowD A x ∨ x = wr.heap.size) : Co13 w w' t u S U Q R k A' n' c' xs' V m d ys :=
  ⟨h.st.kept hk (fun x hq hA => h.hl.off x hA hq) (fun x hx => (row_low h.hl.row hx).1), h.su.kept hk (fun x hq hA => h.hr x hA hq) (fun x hx => (row_low h.hl.row hx).1), h.qr,
    ⟨hrow, fun x hx hq => (hat x hx).elim (fun e => h.hl.off x e hq) (fun e => by have := h.st.has.lt x hq; omega)⟩, fun x hx hq => (hat x hx).elim (fun e => h.hr x e hq) (fun e => by have := h.su.has.lt x hq; omega),
    h.vl.other hk (fun x hx hA => row_apart h.hl.row h.vl.row (by decide) hA hx), h.vr⟩
theorem Co13.appV (h : Co13 w wr t u S U Q R k A n c xs V m d ys) (hk : Kept wr w' (rowD V)) (hrow : w'.ownsRow w.heap.size 3 1 (.slice V' n' c') n' ys') (hat : ∀ x, rowD V' x → rowD V x ∨ x = wr.heap.size) : Co13 w w' t u S U Q R k A n c xs V' n' c' ys' :=
  ⟨h.st.kept hk (fun x hq hA => h.vl.off x hA hq) (fun x hx => (row_low h.vl.row hx).1), h.su.kept hk (fun x hq hA => h.vr x hA hq) (fun x hx => (row_low h.vl.row hx).1), h.qr,
    h.hl.other hk (fun x hx hA => row_apart h.hl.row h.vl.row (by decide) hx hA), h.hr,
    ⟨hrow, fun x hx hq => (hat x hx).elim (fun e => h.vl.off x e hq) (fun e => by have := h.st.has.lt x hq; omega)⟩, fun x hx hq => (hat x hx).elim (fun e => h.vr x e hq) (fun e => by have := h.su.has.lt x hq; omega)⟩
theorem IsAct.kept (h : IsAct wr y 0 a) (hk : Kept wr w' O) (hO : ¬ O y) : IsAct w' y 0 a :=
  ⟨hk.cell_some h.c0 hO, hk.cell_some h.c1 hO, hk.cell_some h.c2 hO, hk.cell_some h.c3 hO, h.d8, h.i8, h.h64, h.vr⟩
theorem IsAct.lt (h : IsAct wr y 0 a) : y < wr.heap.size := lt_of_cell h.c0
theorem Ca13.below (h : Ca13 w wr t u S U Q R k A n c xs V m d ys y a) (hb : Below wr.heap.size wr w') : Ca13 w w' t u S U Q R k A n c xs V m d ys y a := ⟨h.co.below hb, h.act.keep hb, h.yq, h.yr, h.ya, h.yv⟩
theorem Ca13.more (h : Ca13 w wr t u S U Q R k A n c xs V m d ys y a) (hk : k ≤ k') : Ca13 w wr t u S U Q R k' A n c xs V m d ys y a := ⟨h.co.more hk, h.act, h.yq, h.yr, h.ya, h.yv⟩
theorem Ca13.new (h : Co13 w wr t u S U Q R k A n c xs V m d ys) (hx : a.d < 256 ∧ a.i < 256 ∧ a.h < 18446744073709551616 ∧ (-9223372036854775808 ≤ a.v ∧ a.v ≤ 9223372036854775807)) :
    Ca13 w (wr.alloc (.cells #[.int .u8 (a.d : Int), .int .u8 (a.i : Int), .int .u64 (a.h : Int), .int .i64 a.v] 33)) t u S U Q R k A n c xs V m d ys wr.heap.size a := by
  refine ⟨h.below ((Below.refl _ _).alloc (Nat.le_refl _) _), ⟨?_, ?_, ?_, ?_, hx.1, hx.2.1, hx.2.2.1, hx.2.2.2⟩, fun e => by have := h.st.has.lt _ e; omega, fun e => by have := h.su.has.lt _ e; omega, fun e => by have := (row_low h.hl.row e).2; omega, fun e => by have := (row_low h.vl.row e).2; omega⟩ <;> (rw [World.cell?_alloc_mark]; rfl)
theorem Ca13.callT (h : Ca13 w wr t u S U Q R k A n c xs V m d ys y a) (hs : TI.Std w w' t 1 S' (Wid Q wr w') k') (hk : Kept wr w' Q) (hkk : k ≤ k') : Ca13 w w' t u S' U (Wid Q wr w') R k' A n c xs V m d ys y a :=
  ⟨h.co.callT hs hk hkk, h.act.kept hk h.yq, fun e => e.elim h.yq (fun e => by have := h.act.lt; omega), h.yr, h.ya, h.yv⟩
theorem Ca13.callU (h : Ca13 w wr t u S U Q R k A n c xs V m d ys y a) (hs : TA.Std w w' u 1 U' (Wid R wr w') k') (hk : Kept wr w' R) (hkk : k ≤ k') : Ca13 w w' t u S U' Q (Wid R wr w') k' A n c xs V m d ys y a :=
  ⟨h.co.callU hs hk hkk, h.act.kept hk h.yr, h.yq, fun e => e.elim h.yr (fun e => by have := h.act.lt; omega), h.ya, h.yv⟩
theorem Ca13.appA (h : Ca13 w wr t u S U Q R k A n c xs V m d ys y a) (hk : Kept wr w' (rowD A)) (hrow : w'.ownsRow w.heap.size 31 1 (.slice A' n' c') n' xs') (hat : ∀ x, rowD A' x → rowD A x ∨ x = wr.heap.size) : Ca13 w w' t u S U Q R k A' n' c' xs' V m d ys y a :=
  ⟨h.co.appA hk hrow hat, h.act.kept hk h.ya, h.yq, h.yr, fun e => (hat y e).elim h.ya (fun e => by have := h.act.lt; omega), h.yv⟩
theorem Ca13.appV (h : Ca13 w wr t u S U Q R k A n c xs V m d ys y a) (hk : Kept wr w' (rowD V)) (hrow : w'.ownsRow w.heap.size 3 1 (.slice V' n' c') n' ys') (hat : ∀ x, rowD V' x → rowD V x ∨ x = wr.heap.size) : Ca13 w w' t u S U Q R k A n c xs V' n' c' ys' y a :=
  ⟨h.co.appV hk hrow hat, h.act.kept hk h.yv, h.yq, h.yr, h.ya, fun e => (hat y e).elim h.yv (fun e => by have := h.act.lt; omega)⟩
/-- A thing of a list is written over. -/
theorem Ca13.setA {g : Nat} (h : Ca13 w wr t u S U Q R k (some ⟨g, 0, none⟩) n c xs V m d ys y a) (j : Nat) (v : Value) : Ca13 w (wr.setCell ⟨g, j, none⟩ v) t u S U Q R k (some ⟨g, 0, none⟩) n c (xs.set j v) V m d ys y a :=
  h.appA ((Kept.refl wr _).setCell (p := ⟨g, j, none⟩) (fun _ => ⟨_, rfl, rfl⟩) v) (h.co.hl.row.stored j v).1 (fun x hx => .inl hx)
theorem Ca13.setV {g : Nat} (h : Ca13 w wr t u S U Q R k A n c xs (some ⟨g, 0, none⟩) m d ys y a) (j : Nat) (v : Value) : Ca13 w (wr.setCell ⟨g, j, none⟩ v) t u S U Q R k A n c xs (some ⟨g, 0, none⟩) m d (ys.set j v) y a :=
  h.appV ((Kept.refl wr _).setCell (p := ⟨g, j, none⟩) (fun _ => ⟨_, rfl, rfl⟩) v) (h.co.vl.row.stored j v).1 (fun x hx => .inl hx)
theorem Ca13.takeA (h : Ca13 w wr t u S U Q R k A (n + 1) c xs V m d ys y a) : Ca13 w wr t u S U Q R k A n c (xs.take n) V m d ys y a :=
  h.appA (Kept.refl wr _) (by have := row_take h.co.hl.row (k := n) (by omega) (by omega); rwa [Nat.mul_one] at this) (fun x hx => .inl hx)
theorem Ca13.takeV (h : Ca13 w wr t u S U Q R k A n c xs V (m + 1) d ys y a) : Ca13 w wr t u S U Q R k A n c xs V m d (ys.take m) y a :=
  h.appV (Kept.refl wr _) (by have := row_take h.co.vl.row (k := m) (by omega) (by omega); rwa [Nat.mul_one] at this) (fun x hx => .inl hx)
end
/-- What is known of both tables. -/
structure Pu13 (S : M.Tt TI.Th) (U : M.Tt TA.Th) (lp sp : List (Nat × Nat)) (vs : List Int) (k : Nat) : Prop where
  inv : M.Inv13 U xy13 lp sp k
  mir : M.Mir S U
  vr : M.VR S lp vs
section
variable {S : M.Tt TI.Th} {U : M.Tt TA.Th} {lp sp : List (Nat × Nat)} {vs : List Int} {k k' : Nat}
theorem Pu13.new : Pu13 M.Tt.new M.Tt.new [] [] [] 0 := ⟨M.inv_new _, M.Mir.new, M.VR.new⟩
theorem Pu13.more (h : Pu13 S U lp sp vs k) (hk : k ≤ k') : Pu13 S U lp sp vs k' := ⟨h.inv.more hk, h.mir, h.vr⟩
theorem Pu13.put (h : Pu13 S U lp sp vs k) (hs : S.Ok 1) (hu : U.Ok 1) (v : Int) : Pu13 (S.put v) (U.put xy13) (lp ++ [(S.at', S.gn)]) sp (vs ++ [v]) k :=
  ⟨by have := h.inv.put hu; rwa [h.mir.at', h.mir.gn] at this, h.mir.put _ _, h.vr.put hs v⟩
theorem Pu13.set (h : Pu13 S U lp sp vs k) {q : Nat} {p : Nat × Nat} (hq : lp[q]? = some p) (v : Int) : Pu13 (S.set p.1 v) U lp sp (vs.set q v) k := by
  obtain ⟨y, _, h2⟩ := h.vr.at' q p hq
  exact ⟨h.inv, h.mir.set h2 rfl v, h.vr.set h.inv.nd hq v⟩
theorem Pu13.drop (h : Pu13 S U lp sp vs k) {q : Nat} {p : Nat × Nat} (hq : lp[q]? = some p) (hk : k < 1000000) : Pu13 (S.drop TI.z0 p.1) (U.drop TA.z0 p.1) (M.swp lp q) (sp ++ [p]) (M.swp vs q) (k + 1) :=
  ⟨h.inv.swap hq hk, h.mir.drop _ _ _, h.vr.drop h.inv.nd hq _⟩
/-- A live handle. -/
theorem Pu13.live (h : Pu13 S U lp sp vs k) (hl : U.s.length ≤ 1000) (hk : k ≤ 1000) {q : Nat} (hq : q < lp.length) :
    ∃ (i g P : Nat) (v : Int), lp[q]? = some (i, g) ∧ vs[q]? = some v ∧ M.hpV 1 (i : Int) (g : Int) = (P : Int) ∧ P < 18446744073709551616 ∧ U.liv 1 P = some i ∧ S.liv 1 P = some i ∧ U.s[i]? = some ⟨true, g, xy13⟩ ∧ S.s[i]? = some ⟨true, g, v⟩ := by
  obtain ⟨p, hp⟩ : ∃ p, lp[q]? = some p := ⟨_, List.getElem?_eq_getElem hq⟩
  obtain ⟨P, hP, h64, hl', hs⟩ := h.inv.live (K := 1) (by decide) hl hk (List.mem_of_getElem? hp)
  obtain ⟨v, h1, h2⟩ := h.vr.at' q p hp
  exact ⟨p.1, p.2, P, v, hp, h1, hP, h64, hl', by rw [← h.mir.liv]; exact hl', hs, h2⟩
end
/-- A list with its last thing in the place of another one, as cells. -/
theorem swp_map {α β : Type} (f : α → β) (l : List α) (q : Nat) : M.swp (l.map f) q = (M.swp l q).map f := by
  unfold M.swp
  rw [List.getLast?_map]
  cases l.getLast? with
  | none => rfl
  | some x => simp [List.map_take, List.map_set]
theorem swp_hds (l : List (Nat × Nat)) (q n : Nat) (x : Value) (hn : n + 1 = l.length) (hx : (hds (M.hnds 1 l))[n]? = some x) : ((hds (M.hnds 1 l)).set q x).take n = hds (M.hnds 1 (M.swp l q)) := by
  have e1 : hds (M.hnds 1 (M.swp l q)) = M.swp (hds (M.hnds 1 l)) q := by unfold hds M.hnds; rw [swp_map, swp_map]
  have hlen : (hds (M.hnds 1 l)).length = n + 1 := by rw [hds_length, M.hnds_length]; omega
  rw [e1, M.swp_eq (x := x) q (by rw [hlen]; exact hx), hlen]
  rfl
theorem swp_nums (l : List Int) (q n : Nat) (x : Value) (hn : n + 1 = l.length) (hx : (nums l)[n]? = some x) : ((nums l).set q x).take n = nums (M.swp l q) := by
  have e1 : nums (M.swp l q) = M.swp (nums l) q := by unfold nums; rw [swp_map]
  have hlen : (nums l).length = n + 1 := by rw [nums_length]; omega
  rw [e1, M.swp_eq (x := x) q (by rw [hlen]; exact hx), hlen]
  rfl
theorem nums_set (l : List Int) (q : Nat) (v : Int) : nums (l.set q v) = (nums l).set q (.int .i64 v) := by simp [nums, List.map_set]
end Go.Proofs.Ytbkdlblpoohliaa
