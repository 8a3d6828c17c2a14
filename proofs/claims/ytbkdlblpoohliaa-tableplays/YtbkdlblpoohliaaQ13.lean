/-
  A table of ints beside the document's, and the list of the handles that were told.
-/
import Derived.Test.YtbkdlblpoohliaaA13
import Derived.Test.YtbkdlblpoohliaaNil13
import Derived.Test.YtbkdlblpoohliaaArg13
import Derived.Test.YtbkdlblpoohliaaSm13
import Derived.Test.YtbkdlblpoohliaaDs13
import Derived.Test.YtbkdlblpoohliaaDh13
namespace Go.Proofs.Ytbkdlblpoohliaa
open Go.ChangeShapes Go.WideShapes Go.ChangeAt Go.RowKit Go.Deep T13
set_option linter.unusedVariables false
set_option maxRecDepth 20000

structure Pl13 (w wr : World) (t g : Nat) (K : Int) (S D : M.Tt Int) (Q : Nat → Prop) (k : Nat) (A : Option Addr) (n c : Nat) (F : Option Addr) (m d : Nat) (T : Option Addr) (p q : Nat) (tl : List Int) : Prop where
  st : TI.Std w wr t K S Q k
  bt : Bt wr g K A n c F m d
  dc : Doc13 wr w.heap.size D A n c F m d
  ls : Lst wr 31 w.heap.size T p q (hds tl) Q
  gq : ¬ Q g
  gl : w.heap.size ≤ g
  aq : ∀ x, rowD A x → ¬ Q x
  fq : ∀ x, rowD F x → ¬ Q x
  hs : ∀ h ∈ tl, ∃ P : Nat, h = (P : Int) ∧ P < 18446744073709551616
/-- .. and a variable that holds an act. -/
structure Pa13 (w wr : World) (t g : Nat) (K : Int) (S D : M.Tt Int) (Q : Nat → Prop) (k : Nat) (A : Option Addr) (n c : Nat) (F : Option Addr) (m d : Nat) (T : Option Addr) (p q : Nat) (tl : List Int) (y : Nat) (a : Act13) : Prop where
  pl : Pl13 w wr t g K S D Q k A n c F m d T p q tl
  act : IsAct wr y 0 a
  yq : ¬ Q y
  yg : y ≠ g
  yt : ¬ rowD T y
section
variable {w wr w' : World} {t g k k' n c m d p q n' c' m' d' p' q' y : Nat} {K : Int} {S D S' D' : M.Tt Int} {Q O : Nat → Prop} {A F T A' F' T' : Option Addr} {tl tl' : List Int} {a : Act13}
theorem iact_kept (h : IsAct wr y 0 a) (hk : Kept wr w' O) (hO : ¬ O y) : IsAct w' y 0 a :=
  ⟨hk.cell_some h.c0 hO, hk.cell_some h.c1 hO, hk.cell_some h.c2 hO, hk.cell_some h.c3 hO, h.d8, h.i8, h.h64, h.vr⟩
theorem Pl13.below (h : Pl13 w wr t g K S D Q k A n c F m d T p q tl) (hb : Below wr.heap.size wr w') : Pl13 w w' t g K S D Q k A n c F m d T p q tl := ⟨h.st.below hb, h.bt.below hb, h.dc.below hb, h.ls.below hb, h.gq, h.gl, h.aq, h.fq, h.hs⟩
theorem Pl13.more (h : Pl13 w wr t g K S D Q k A n c F m d T p q tl) (hk : k ≤ k') : Pl13 w wr t g K S D Q k' A n c F m d T p q tl := ⟨h.st.more hk, h.bt, h.dc, h.ls, h.gq, h.gl, h.aq, h.fq, h.hs⟩
/-- The program answered. -/
theorem Pl13.prog (h : Pl13 w wr t g K S D Q k A n c F m d T p q tl) (hs : TI.Std w w' t K S' (Wid Q wr w') k') (hk : Kept wr w' Q) : Pl13 w w' t g K S' D (Wid Q wr w') k' A n c F m d T p q tl :=
  ⟨hs, h.bt.kept hk h.gq, h.dc.kept hk h.aq h.fq, h.ls.call hk, fun e => e.elim h.gq (fun e => by have := h.bt.lt; omega), h.gl, fun x hx e => e.elim (h.aq x hx) (fun e => by have := (row_low h.dc.row hx).2; omega), fun x hx e => e.elim (h.fq x hx) (fun e => by have := (row_low h.dc.fre hx).2; omega), h.hs⟩
/-- A handle was told. -/
theorem Pl13.app (h : Pl13 w wr t g K S D Q k A n c F m d T p q tl) (hk : Kept wr w' (rowD T)) (hrow : w'.ownsRow w.heap.size 31 1 (.slice T' p' q') p' (hds tl')) (hat : ∀ x, rowD T' x → rowD T x ∨ x = wr.heap.size) (hh : ∀ h ∈ tl', ∃ P : Nat, h = (P : Int) ∧ P < 18446744073709551616) : Pl13 w w' t g K S D Q k A n c F m d T' p' q' tl' := by
  have q := h.st.app h.ls hk hrow hat
  exact ⟨q.1, h.bt.kept hk (row_off h.ls.row h.bt.blk (by decide)), h.dc.kept hk (fun x hx ht => row_apart h.ls.row h.dc.row (by decide) ht hx) (fun x hx ht => row_apart h.ls.row h.dc.fre (by decide) ht hx), q.2, h.gq, h.gl, h.aq, h.fq, hh⟩
/-- The document answered, and its answer was stored, by way of another variable. -/
theorem Pl13.docs (h : Pl13 w wr t g K S D Q k A n c F m d T p q tl) (hd : Doc13 w' w.heap.size D' A' n' c' F' m' d') (hb : Below wr.heap.size wr w') (mA : ∀ x, rowD A' x → rowD A x ∨ wr.heap.size ≤ x) (mF : ∀ x, rowD F' x → rowD F x ∨ wr.heap.size ≤ x) :
    Pl13 w ((((w'.alloc (.cells #[.int .i64 K, .slice A' n' c', .slice F' m' d'] 29)).setCell ⟨g, 0, none⟩ (.int .i64 K)).setCell ⟨g, 1, none⟩ (.slice A' n' c')).setCell ⟨g, 2, none⟩ (.slice F' m' d')) t g K S D' Q k A' n' c' F' m' d' T p q tl ∧
    Kept wr ((((w'.alloc (.cells #[.int .i64 K, .slice A' n' c', .slice F' m' d'] 29)).setCell ⟨g, 0, none⟩ (.int .i64 K)).setCell ⟨g, 1, none⟩ (.slice A' n' c')).setCell ⟨g, 2, none⟩ (.slice F' m' d')) (fun x => x = g) := by
  have b2 := (Below.refl w'.heap.size w').alloc (Nat.le_refl _) (.cells #[.int .i64 K, .slice A' n' c', .slice F' m' d'] 29)
  obtain ⟨w5, hw5⟩ : ∃ z, z = w'.alloc (.cells #[.int .i64 K, .slice A' n' c', .slice F' m' d'] 29) := ⟨_, rfl⟩
  rw [← hw5] at b2 ⊢
  have h5 := (h.below hb).below b2
  have d5 := hd.below b2
  have k6 := kept_put (g := g) w5 (.int .i64 K) (.slice A' n' c') (.slice F' m' d')
  refine ⟨⟨h5.st.kept k6 (fun x hx e => h.gq (e ▸ hx)) (fun x hx => by rw [hx]; exact h.gl), h5.bt.put _ _ _ _ _ _ _, d5.kept k6 (fun x hx e => row_off d5.row h5.bt.blk (by decide) (e ▸ hx)) (fun x hx e => row_off d5.fre h5.bt.blk (by decide) (e ▸ hx)), h5.ls.other k6 (fun x hx e => row_off h5.ls.row h5.bt.blk (by decide) (e ▸ hx)), h.gq, h.gl, fun x hx e => (mA x hx).elim (fun e1 => h.aq x e1 e) (fun e1 => by have := h.st.has.lt x e; omega), fun x hx e => (mF x hx).elim (fun e1 => h.fq x e1 e) (fun e1 => by have := h.st.has.lt x e; omega), h.hs⟩, ?_⟩
  exact (Kept.of_below (below_call hb b2) (fun x => x = g)).trans k6 (fun x _ e => e)
theorem Pa13.new (h : Pl13 w wr t g K S D Q k A n c F m d T p q tl) (hx : a.d < 256 ∧ a.i < 256 ∧ a.h < 18446744073709551616 ∧ (-9223372036854775808 ≤ a.v ∧ a.v ≤ 9223372036854775807)) :
    Pa13 w (wr.alloc (.cells #[.int .u8 (a.d : Int), .int .u8 (a.i : Int), .int .u64 (a.h : Int), .int .i64 a.v] 33)) t g K S D Q k A n c F m d T p q tl wr.heap.size a := by
  refine ⟨h.below ((Below.refl _ _).alloc (Nat.le_refl _) _), ⟨?_, ?_, ?_, ?_, hx.1, hx.2.1, hx.2.2.1, hx.2.2.2⟩, fun e => by have := h.st.has.lt _ e; omega, fun e => by have := h.bt.lt; omega, fun e => by have := (row_low h.ls.row e).2; omega⟩ <;> (rw [World.cell?_alloc_mark]; rfl)
theorem Pa13.below (h : Pa13 w wr t g K S D Q k A n c F m d T p q tl y a) (hb : Below wr.heap.size wr w') : Pa13 w w' t g K S D Q k A n c F m d T p q tl y a := ⟨h.pl.below hb, h.act.keep hb, h.yq, h.yg, h.yt⟩
theorem Pa13.prog (h : Pa13 w wr t g K S D Q k A n c F m d T p q tl y a) (hs : TI.Std w w' t K S' (Wid Q wr w') k') (hk : Kept wr w' Q) : Pa13 w w' t g K S' D (Wid Q wr w') k' A n c F m d T p q tl y a :=
  ⟨h.pl.prog hs hk, iact_kept h.act hk h.yq, fun e => e.elim h.yq (fun e => by have := lt_of_cell h.act.c0; simp only at this; omega), h.yg, h.yt⟩
theorem Pa13.docs (h : Pa13 w wr t g K S D Q k A n c F m d T p q tl y a) (hd : Doc13 w' w.heap.size D' A' n' c' F' m' d') (hb : Below wr.heap.size wr w') (mA : ∀ x, rowD A' x → rowD A x ∨ wr.heap.size ≤ x) (mF : ∀ x, rowD F' x → rowD F x ∨ wr.heap.size ≤ x) :
    Pa13 w ((((w'.alloc (.cells #[.int .i64 K, .slice A' n' c', .slice F' m' d'] 29)).setCell ⟨g, 0, none⟩ (.int .i64 K)).setCell ⟨g, 1, none⟩ (.slice A' n' c')).setCell ⟨g, 2, none⟩ (.slice F' m' d')) t g K S D' Q k A' n' c' F' m' d' T p q tl y a :=
  ⟨(h.pl.docs hd hb mA mF).1, iact_kept h.act (h.pl.docs hd hb mA mF).2 h.yg, h.yq, h.yg, h.yt⟩
end
/-- The document's Set and Drop, of any handle. -/
theorem rset_any (w : World) (B : Nat) (K : Int) (S : M.Tt Int) (A : Option Addr) (n c : Nat) (F : Option Addr) (m d : Nat) (h : Doc13 w B S A n c F m d) (hB : B ≤ w.heap.size) (hok : S.Ok K) (hl : S.s.length ≤ 900000) (hh : Nat) (h64 : hh < 18446744073709551616) (v : Int) (b : Bool) (hb : (S.liv K hh).isSome = b) :
    Calls Try.prog 14 #[tv K A n c F m d, .int .u64 (hh : Int), .int .i64 v] w (DGot13 w B K (S.setH K hh v) A F (fun z => .tuple #[z, .bool b])) := by
  subst hb
  unfold M.Tt.setH
  cases hi : S.liv K hh with
  | none => exact rset_none w B K S A n c F m d h hB hok (by omega) hh h64 v hi
  | some i => exact rset_some w B K S A n c F m d h hB hok (by omega) hh h64 v hi
theorem rdrop_any (w : World) (B : Nat) (K : Int) (S : M.Tt Int) (A : Option Addr) (n c : Nat) (F : Option Addr) (m d : Nat) (h : Doc13 w B S A n c F m d) (hB : B ≤ w.heap.size) (hok : S.Ok K) (hl : S.s.length ≤ 900000) (hh : Nat) (h64 : hh < 18446744073709551616) (b : Bool) (hb : (S.liv K hh).isSome = b) :
    Calls Try.prog 16 #[tv K A n c F m d, .int .u64 (hh : Int)] w (DGot13 w B K (S.dropH K 0 hh) A F (fun z => .tuple #[z, .bool b])) := by
  subst hb
  unfold M.Tt.dropH
  cases hi : S.liv K hh with
  | none => exact rdrop_none w B K S A n c F m d h hB hok (by omega) hh h64 hi
  | some i => exact rdrop_some w B K S A n c F m d h hB hok hl hh h64 hi
end Go.Proofs.Ytbkdlblpoohliaa
