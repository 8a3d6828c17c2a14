/-
  The document's chunks: a space's log, pages and what is kept, as a value; where its lists lie.
-/
import Derived.Test.YtmboibipabkhaaaGreatKxK10
import Derived.Test.YtmboibipabkhaaaGreatKxR11
import Derived.Test.YtmboibipabkhaaaGreatKxR6
import Derived.Test.YtmboibipabkhaaaGreatKxRh9
import Derived.Test.YtmboibipabkhaaaGreatKxRg9
import Derived.Test.YtmboibipabkhaaaGreatKxR7
namespace Go.Proofs.YtmboibipabkhaaaGreat
open Go.ChangeShapes Go.WideShapes Go.ChangeAt Go.RowKit Go.Deep
set_option linter.unusedVariables false
set_option maxRecDepth 20000
structure Bxn (w : World) (g : Nat) (v : List Value) : Prop where
 cs : ∀ j u, v[j]? = some u → w.cell? ⟨g, j, none⟩ = some u
 fz : ∀ j, w.frozen? ⟨g, j, none⟩ = false
section
variable {w w' : World} {g : Nat} {v : List Value} {O : Nat → Prop}
theorem Bxn.new (w : World) (ty : TypeId) (v : List Value) : Bxn (w.alloc (.cells v.toArray ty)) w.heap.size v :=
 ⟨fun j u hu => by rw [World.cell?_alloc_mark]; simpa using hu, fun j => by rw [World.frozen?_alloc_mark]; simp⟩
theorem Bxn.lt (h : Bxn w g v) (hv : v ≠ []) : g < w.heap.size := by
 cases v with
 | nil => exact absurd rfl hv
 | cons a t => exact lt_of_cell (h.cs 0 a rfl)
theorem Bxn.below (h : Bxn w g v) (hv : v ≠ []) (hb : Below w.heap.size w w') : Bxn w' g v :=
 ⟨fun j u hu => (hb.cell (lt_of_cell (h.cs j u hu))).trans (h.cs j u hu), fun j => (World.frozen?_of_block (w := w) (a := ⟨g, j, none⟩) (hb.block g (h.lt hv))).trans (h.fz j)⟩
theorem Bxn.set (h : Bxn w g v) (j : Nat) (hj : j < v.length) (u : Value) : Bxn (w.setCell ⟨g, j, none⟩ u) g (v.set j u) := by
 refine ⟨fun i x hx => ?_, fun i => by rw [World.frozen?_setCell]; exact h.fz i⟩
 by_cases e : i = j
 ·subst e
  rw [List.getElem?_set_self hj] at hx
  cases hx
  exact World.cell?_setCell_same _ _ _ (h.cs i _ (List.getElem?_eq_getElem hj))
 ·rw [List.getElem?_set_ne (fun e' => e e'.symm)] at hx
  rw [World.cell?_setCell_other _ _ _ _ (by simp; try omega)]
  exact h.cs i x hx
theorem Bxn.kept (h : Bxn w g v) (hv : v ≠ []) (k : Kept w w' O) (n : ¬ O g) : Bxn w' g v :=
 ⟨fun j u hu => k.cell_some (h.cs j u hu) n, fun j => (World.frozen?_of_block (w := w) (a := ⟨g, j, none⟩) (k.block g (h.lt hv) n)).trans (h.fz j)⟩
end
section
variable {w w' : World} {g B : Nat} {v0 v1 v2 v3 v4 v5 v6 : Value}
theorem Bxn.set7 (h : Bxn w g [v0, v1, v2, v3, v4, v5, v6]) (u0 u1 u2 u3 u4 u5 u6 : Value) :
  Bxn (((((((w.setCell ⟨g, 0, none⟩ u0).setCell ⟨g, 1, none⟩ u1).setCell ⟨g, 2, none⟩ u2).setCell ⟨g, 3, none⟩ u3).setCell ⟨g, 4, none⟩ u4).setCell ⟨g, 5, none⟩ u5).setCell ⟨g, 6, none⟩ u6) g [u0, u1, u2, u3, u4, u5, u6] :=
 (((((((h.set 0 (by simp) u0).set 1 (by simp) u1).set 2 (by simp) u2).set 3 (by simp) u3).set 4 (by simp) u4).set 5 (by simp) u5).set 6 (by simp) u6)
theorem kept_set7 (w : World) (g : Nat) (u0 u1 u2 u3 u4 u5 u6 : Value) :
  Kept w (((((((w.setCell ⟨g, 0, none⟩ u0).setCell ⟨g, 1, none⟩ u1).setCell ⟨g, 2, none⟩ u2).setCell ⟨g, 3, none⟩ u3).setCell ⟨g, 4, none⟩ u4).setCell ⟨g, 5, none⟩ u5).setCell ⟨g, 6, none⟩ u6) (fun b => b = g) :=
 ((((((((Kept.refl w (fun b => b = g)).setCell (p := ⟨g, 0, none⟩) (fun _ => rfl) u0).setCell (p := ⟨g, 1, none⟩) (fun _ => rfl) u1).setCell (p := ⟨g, 2, none⟩) (fun _ => rfl) u2).setCell (p := ⟨g, 3, none⟩) (fun _ => rfl) u3).setCell (p := ⟨g, 4, none⟩) (fun _ => rfl) u4).setCell (p := ⟨g, 5, none⟩) (fun _ => rfl) u5).setCell (p := ⟨g, 6, none⟩) (fun _ => rfl) u6)
theorem set3_at (h : Bxn w g [v0, v1, v2, v3, v4, v5, v6]) (u3 u4 u5 : Value) :
  Bxn (((w.setCell ⟨g, 3, none⟩ u3).setCell ⟨g, 4, none⟩ u4).setCell ⟨g, 5, none⟩ u5) g [v0, v1, v2, u3, u4, u5, v6] :=
 (((h.set 3 (by simp) u3).set 4 (by simp) u4).set 5 (by simp) u5)
theorem set3_kept (w : World) (g i j k : Nat) (u0 u1 u2 : Value) :
  Kept w (((w.setCell ⟨g, i, none⟩ u0).setCell ⟨g, j, none⟩ u1).setCell ⟨g, k, none⟩ u2) (fun b => b = g) :=
 ((((Kept.refl w (fun b => b = g)).setCell (p := ⟨g, i, none⟩) (fun _ => rfl) u0).setCell (p := ⟨g, j, none⟩) (fun _ => rfl) u1).setCell (p := ⟨g, k, none⟩) (fun _ => rfl) u2)
theorem Bxn.set3 (h : Bxn w g [v0, v1, v2]) (u0 u1 u2 : Value) : Bxn (((w.setCell ⟨g, 0, none⟩ u0).setCell ⟨g, 1, none⟩ u1).setCell ⟨g, 2, none⟩ u2) g [u0, u1, u2] :=
 (((h.set 0 (by simp) u0).set 1 (by simp) u1).set 2 (by simp) u2)
theorem below_kept (h : Below w.heap.size w w') {w2 : World} (hk : Kept w' w2 (fun b => b = g)) (hg : w.heap.size ≤ g) : Below w.heap.size w w2 := h.trans (hk.below h.size (fun x e => by subst e; exact hg))
end
theorem kept_set1 {w w' : World} {g : Nat} (h : Kept w w' (fun b => b = g)) (j : Nat) (u : Value) : Kept w (w'.setCell ⟨g, j, none⟩ u) (fun b => b = g) := h.setCell (p := ⟨g, j, none⟩) (fun _ => rfl) u
structure Dc where
 A : Option Addr
 n : Nat
 c : Nat
 lg : List M.Ent
 Al : Option Addr
 z : Nat
 cl : Nat
 Ak : Option Addr
 zk : Nat
 ck : Nat
 kl : List M.R
abbrev dv (P : Nat) (Z : St) (d : Dc) : Value := .agg #[.int .i64 (P : Int), .slice d.A d.n d.c, .int .i64 (Z.u : Int), .int .i64 (P : Int), .slice d.Al d.z d.cl, .int .i64 Z.T, .slice d.Ak d.zk d.ck]
abbrev dcs (P : Nat) (Z : St) (d : Dc) : List Value := [.int .i64 (P : Int), .slice d.A d.n d.c, .int .i64 (Z.u : Int), .int .i64 (P : Int), .slice d.Al d.z d.cl, .int .i64 Z.T, .slice d.Ak d.zk d.ck]
abbrev d0s : List Value := [.int .i64 0, .slice none 0 0, .int .i64 0, .int .i64 0, .slice none 0 0, .int .i64 0, .slice none 0 0]
structure Doc (w : World) (Z : St) (d : Dc) (m : Nat) : Prop where
 nl : d.n = d.lg.length
 log : LogAt w d.A d.lg
 ok : ∀ e ∈ d.lg, EntOk e
 few : d.n ≤ m
 h0 : d.n = 0 → d.A = none ∧ d.c = 0
 f : M.byteAt d.lg = Z.f
 zl : d.z = Z.l.length
 runs : Runs w d.Al Z.l
 kz : d.zk = d.kl.length
 kc : d.zk ≤ d.ck
 kept : Runs w d.Ak d.kl
 sel : M.sel d.kl = Z.K
 bk : ∀ a, d.Ak = some a → a.block < w.heap.size
def Dof (Z : St) (d : Dc) (x : Nat) : Prop := Off x d.A ∧ (Z.l ≠ [] → Off x d.Al) ∧ Off x d.Ak
section
variable {w w' : World} {P m m' : Nat} {Z Z' : St} {d d' : Dc} {O Q : Nat → Prop}
theorem Doc.logc (h : Doc w Z d m) (hn : d.A ≠ none) : 0 < (logCells d.lg).length := by
 rw [logCells_length, ← h.nl]
 rcases Nat.eq_zero_or_pos d.n with e | e
 ·exact absurd (h.h0 e).1 hn
 ·omega
theorem Doc.fresh (h : Doc w Z d m) {x : Nat} (hx : w.heap.size ≤ x) : Dof Z d x := by
 refine ⟨fun a e e2 => ?_, fun hl a e e2 => ?_, fun a e e2 => ?_⟩
 ·have := log_low h.log (h.logc (by rw [e]; simp)) a e
  omega
 ·obtain ⟨bl, o, e3, hc⟩ := h.runs (List.length_pos_iff.2 hl)
  rw [e] at e3
  cases e3
  have := lt_of_cell (hc 0 (List.length_pos_iff.2 hl)).1
  simp only at this e2
  omega
 ·have := h.bk a e
  omega
theorem Doc.kept' (h : Doc w Z d m) (k : Kept w w' O) (hO : ∀ x, O x → Dof Z d x) : Doc w' Z d m := by
 refine ⟨h.nl, k.lies h.log (fun _ a e q => (hO _ q).1 a e rfl), h.ok, h.few, h.h0, h.f, h.zl, fun hl => ?_, h.kz, h.kc, h.kept.besides k (fun a e q => (hO _ q).2.2 a e rfl), h.sel, fun a e => Nat.lt_of_lt_of_le (h.bk a e) k.size⟩
 exact h.runs.besides k (fun a e q => (hO _ q).2.1 (List.length_pos_iff.1 hl) a e rfl) hl
theorem Doc.below (h : Doc w Z d m) (hb : Below w.heap.size w w') : Doc w' Z d m :=
 h.kept' (Kept.of_below hb (fun _ => False)) (fun x e => e.elim)
theorem Doc.more (h : Doc w Z d m) (hm : m ≤ m') : Doc w Z d m' := ⟨h.nl, h.log, h.ok, Nat.le_trans h.few hm, h.h0, h.f, h.zl, h.runs, h.kz, h.kc, h.kept, h.sel, h.bk⟩
theorem Doc.at (h : Doc w Z d m) (e1 : Z'.l = Z.l) (e2 : Z'.K = Z.K) (e3 : Z'.f = Z.f) : Doc w Z' d m := ⟨h.nl, h.log, h.ok, h.few, h.h0, by rw [e3]; exact h.f, by rw [e1]; exact h.zl, by rw [e1]; exact h.runs, h.kz, h.kc, h.kept, by rw [e2]; exact h.sel, h.bk⟩
theorem Dof.wid (h : Doc w Z d m) (hq : ∀ x, Q x → Dof Z d x) : ∀ x, Wid Q w w' x → Dof Z d x := fun x e => e.elim (hq x) (fun e => h.fresh e.1)
end
def DGot (w : World) (P : Nat) (Z : St) (d : Dc) (Z' : St) (m : Nat) (mk : Value → Value) (e : Ending) (w' : World) : Prop :=
 ∃ d', e = .returned (mk (dv P Z' d')) ∧ Doc w' Z' d' m ∧ Below w.heap.size w w' ∧ ∀ x, x < w.heap.size → Dof Z d x → Dof Z' d' x
section
variable {w w' : World} {P m : Nat} {Z : St} {d : Dc}
theorem Doc.pages (h : Doc w Z d m) {A' : Option Addr} {z' c' : Nat} {l' : List M.R} {T' : Int} (hz : z' = l'.length) (hr : Runs w' A' l') (hb : Below w.heap.size w w') (hF : A' = d.Al ∧ l' = Z.l ∨ FreshR w.heap.size A') :
  Doc w' { Z with l := l', T := T' } { d with Al := A', z := z', cl := c' } m ∧ ∀ x, x < w.heap.size → Dof Z d x → Dof { Z with l := l', T := T' } { d with Al := A', z := z', cl := c' } x := by
 have hd := h.below hb
 refine ⟨⟨hd.nl, hd.log, hd.ok, hd.few, hd.h0, hd.f, hz, hr, hd.kz, hd.kc, hd.kept, hd.sel, hd.bk⟩, fun x hx ho => ⟨ho.1, fun hl => ?_, ho.2.2⟩⟩
 rcases hF with ⟨rfl, e⟩ | hF
 ·exact ho.2.1 (by rw [← e]; exact hl)
 ·intro a e e2
  have := hF a e
  omega
theorem Doc.keeps (h : Doc w Z d m) {A' : Option Addr} {z' c' : Nat} {kl' : List M.R} {K' : M.Ky} (hz : z' = kl'.length) (hc : z' ≤ c') (hr : Runs w' A' kl') (hs : M.sel kl' = K') (hb : Below w.heap.size w w') (hF : Mv w w' d.Ak A') :
  Doc w' { Z with K := K' } { d with Ak := A', zk := z', ck := c', kl := kl' } m ∧ ∀ x, x < w.heap.size → Dof Z d x → Dof { Z with K := K' } { d with Ak := A', zk := z', ck := c', kl := kl' } x := by
 have hd := h.below hb
 refine ⟨⟨hd.nl, hd.log, hd.ok, hd.few, hd.h0, hd.f, hd.zl, hd.runs, hz, hc, hr, hs, fun a e => ?_⟩, fun x hx ho => ⟨ho.1, ho.2.1, hF.off x hx ho.2.2⟩⟩
 rcases hF with rfl | hF
 ·exact hd.bk a e
 ·exact (hF a e).2
theorem Doc.bytes (h : Doc w Z d m) {A' : Option Addr} {n' c' T' : Nat} {l' : List M.Ent} {f' : Nat → UInt8} (hn : n' = l'.length) (hl : LogAt w' A' l') (hf : Fresh w w' d.A A' d.c c' d.lg l') (hb : Below w.heap.size w w') (hby : M.byteAt l' = f') (hle : l'.length ≤ d.lg.length + 1) (hok : ∀ e ∈ l', EntOk e) :
  Doc w' { Z with u := T', f := f' } { d with A := A', n := n', c := c', lg := l' } (m + 1) ∧ ∀ x, x < w.heap.size → Dof Z d x → Dof { Z with u := T', f := f' } { d with A := A', n := n', c := c', lg := l' } x := by
 have hd := h.below hb
 refine ⟨⟨hn, hl, hok, by have := hd.few; have := hd.nl; show n' ≤ m + 1; omega, fun e => ?_, hby, hd.zl, hd.runs, hd.kz, hd.kc, hd.kept, hd.sel, hd.bk⟩, fun x hx ho => ⟨?_, ho.2.1, ho.2.2⟩⟩
 ·rcases hf with ⟨h1, h2, h3⟩ | ⟨g, h1, h2, h3, h4⟩
  ·subst h1 h2 h3
   exact hd.h0 (hd.nl.trans (hn.symm.trans e))
  ·have e : n' = 0 := e
   omega
 ·rcases hf with ⟨h1, h2, h3⟩ | ⟨g, h1, h2, h3, h4⟩
  ·subst h1
   exact ho.1
  ·intro a e e2
   have e : A' = some a := e
   rw [h1] at e
   cases e
   have e2 : g = x := e2
   omega
end
set_option maxHeartbeats 4000000 in
theorem rcnew10_any (w : World) (x : Int) (P : Nat) (hP : (P : Int) = min (max x 1) 1048576) :
  Calls Tryz.prog 6 #[.int .i64 x] w fun e w' => ∃ d, e = .returned (dv P (St.new P) d) ∧ Doc w' (St.new P) d 0 ∧ Below w.heap.size w w' ∧ ∀ x, x < w.heap.size → Dof (St.new P) d x := by
 have b1 := (Below.refl w.heap.size w).alloc (Nat.le_refl _) (.cells (d0s).toArray 34)
 have y1 := Bxn.new w 34 d0s
 obtain ⟨w1, hw1⟩ : ∃ w1, w1 = w.alloc (.cells (d0s).toArray 34) := ⟨_, rfl⟩
 obtain ⟨g, hg⟩ : ∃ g, g = w.heap.size := ⟨_, rfl⟩
 rw [← hw1] at b1 y1
 rw [← hg] at y1
 have H1 := Lib.hid (And.intro b1 (And.intro y1 (show w.heap.size ≤ g by omega)))
 have HP := Lib.hid hP
 have hw1' := Lib.hid hw1
 clear b1 y1 hP
 go_enter Tryz.func6, Tryz.ntmps6
 go_upto_region 1 with fail
 rw [show w.alloc (.cells #[.int .i64 0, .slice none 0 0, .int .i64 0, .int .i64 0, .slice none 0 0, .int .i64 0, .slice none 0 0] 34) = w1 from hw1.symm, ← hg]
 clear hw1 hg
 go_wp2_with fail
 refine (rnew_any x P HP.out w1).mono ?_
 rintro e w2 ⟨rfl, b2⟩
 have H2 := Lib.hid (And.intro (below_call H1.out.1 b2) (And.intro (H1.out.2.1.below (by simp) b2) H1.out.2.2))
 clear b2
 go_wp2_with fail
 refine (panew_f w2 x P HP.out).mono ?_
 rintro e w3 ⟨A, rfl, hr, b3, hF⟩
 have y := H2.out.2.1.below (by simp) b3
 have H3 := Lib.hid (And.intro (below_call H2.out.1 b3) (And.intro y (And.intro hr hF)))
 have z0 := y.fz 0
 have z1 := y.fz 1
 have z2 := y.fz 2
 have z3 := y.fz 3
 have z4 := y.fz 4
 have z5 := y.fz 5
 have z6 := y.fz 6
 have c0 := y.cs 0 _ rfl
 have c1 := y.cs 1 _ rfl
 have c2 := y.cs 2 _ rfl
 have c3 := y.cs 3 _ rfl
 have c4 := y.cs 4 _ rfl
 have c5 := y.cs 5 _ rfl
 have c6 := y.cs 6 _ rfl
 clear y hr b3 hF
 go_wp2_with fail
 obtain ⟨d, hd⟩ : ∃ d : Dc, d = ⟨none, 0, 0, [], A, 1, 1, none, 0, 0, []⟩ := ⟨_, rfl⟩
 have D3 : Doc w3 (St.new P) d 0 := by
  subst hd
  exact ⟨rfl, Lies.nil, (fun e he => by cases he), Nat.le_refl _, fun _ => ⟨rfl, rfl⟩, rfl, rfl, H3.out.2.2.1, rfl, Nat.le_refl _, Runs.nil, rfl, (fun a e => by cases e)⟩
 have dof : ∀ x, x < w2.heap.size → Dof (St.new P) d x := fun x hx => by
  subst hd
  refine ⟨Off.none _, fun _ a e e2 => ?_, Off.none _⟩
  have := H3.out.2.2.2 a e
  omega
 have hgl := H2.out.2.1.lt (by simp)
 have yy := H3.out.2.1.set7 (.int .i64 (P : Int)) (.slice none 0 0) (.int .i64 0) (.int .i64 (P : Int)) (.slice A 1 1) (.int .i64 0) (.slice none 0 0)
 have kk := kept_set7 w3 g (.int .i64 (P : Int)) (.slice none 0 0) (.int .i64 0) (.int .i64 (P : Int)) (.slice A 1 1) (.int .i64 0) (.slice none 0 0)
 have bb := below_kept H3.out.1 kk H1.out.2.2
 refine bodyPost_ret (v := dv P (St.new P) d) ?_ rfl ?_
 ·subst hd
  simp [results, go_sem, yy.cs 0 _ rfl, yy.cs 1 _ rfl, yy.cs 2 _ rfl, yy.cs 3 _ rfl, yy.cs 4 _ rfl, yy.cs 5 _ rfl, yy.cs 6 _ rfl, St.new]
 ·exact ⟨d, rfl, D3.kept' kk (fun x e => by rw [e]; exact dof g hgl), bb, fun x hx => dof x (Nat.lt_of_lt_of_le hx H2.out.1.size)⟩
end Go.Proofs.YtmboibipabkhaaaGreat
