/-
  The document's take: what a call of it knows of the document's chunks and its own variables.
-/
import Derived.Test.YtmboibipabkhaaaGreatKxE10
namespace Go.Proofs.YtmboibipabkhaaaGreat
open Go.ChangeShapes Go.WideShapes Go.ChangeAt Go.RowKit Go.Deep
set_option linter.unusedVariables false
set_option maxRecDepth 20000
structure Fr (w wr : World) (m : Nat) (Z0 : St) (d0 : Dc) (Z : St) (d : Dc) (gs : List Nat) : Prop where
 dc : Doc wr Z d m
 bel : Below w.heap.size w wr
 mv : ∀ x, x < w.heap.size → Dof Z0 d0 x → Dof Z d x
 og : ∀ g ∈ gs, Dof Z d g ∧ w.heap.size ≤ g ∧ g < wr.heap.size
section
variable {w wr w' : World} {P m m' : Nat} {Z0 Z Z' : St} {d0 d d' : Dc} {gs : List Nat} {g : Nat}
theorem Fr.begin (h : Doc w Z d m) : Fr w w m Z d Z d [] := ⟨h, Below.refl _ _, fun _ _ e => e, fun g hg => by cases hg⟩
theorem Fr.below (h : Fr w wr m Z0 d0 Z d gs) (hb : Below wr.heap.size wr w') : Fr w w' m Z0 d0 Z d gs :=
 ⟨h.dc.below hb, below_call h.bel hb, h.mv, fun g hg => ⟨(h.og g hg).1, (h.og g hg).2.1, Nat.lt_of_lt_of_le (h.og g hg).2.2 hb.size⟩⟩
theorem Fr.new (h : Fr w wr m Z0 d0 Z d gs) (o : Obj) : Fr w (wr.alloc o) m Z0 d0 Z d (wr.heap.size :: gs) := by
 have hb := (Below.refl wr.heap.size wr).alloc (Nat.le_refl _) o
 have h2 := h.below hb
 refine ⟨h2.dc, h2.bel, h2.mv, fun g hg => ?_⟩
 rcases List.mem_cons.1 hg with e | hg
 ·subst e
  exact ⟨h.dc.fresh (Nat.le_refl _), h.bel.size, by simp⟩
 ·exact h2.og g hg
theorem Fr.set (h : Fr w wr m Z0 d0 Z d gs) (hg : g ∈ gs) (k : Kept wr w' (fun b => b = g)) : Fr w w' m Z0 d0 Z d gs :=
 ⟨h.dc.kept' k (fun x e => by subst e; exact (h.og _ hg).1), below_kept h.bel k (h.og g hg).2.1, h.mv, fun x hx => ⟨(h.og x hx).1, (h.og x hx).2.1, Nat.lt_of_lt_of_le (h.og x hx).2.2 k.size⟩⟩
theorem Fr.to (h : Fr w wr m Z0 d0 Z d gs) (h1 : Doc w' Z' d' m') (hb : Below wr.heap.size wr w') (h2 : ∀ x, x < wr.heap.size → Dof Z d x → Dof Z' d' x) : Fr w w' m' Z0 d0 Z' d' gs :=
 ⟨h1, below_call h.bel hb, fun x hx ho => h2 x (Nat.lt_of_lt_of_le hx h.bel.size) (h.mv x hx ho), fun g hg => ⟨h2 g (h.og g hg).2.2 (h.og g hg).1, (h.og g hg).2.1, Nat.lt_of_lt_of_le (h.og g hg).2.2 hb.size⟩⟩
theorem Fr.at (h : Fr w wr m Z0 d0 Z d gs) (e1 : Z'.l = Z.l) (e2 : Z'.K = Z.K) (e3 : Z'.f = Z.f) : Fr w wr m Z0 d0 Z' d gs :=
 ⟨h.dc.at e1 e2 e3, h.bel, fun x hx ho => by have := h.mv x hx ho; exact ⟨this.1, by rw [e1]; exact this.2.1, this.2.2⟩, fun g hg => ⟨by have := (h.og g hg).1; exact ⟨this.1, by rw [e1]; exact this.2.1, this.2.2⟩, (h.og g hg).2⟩⟩
theorem Fr.done (h : Fr w wr m Z0 d0 Z d gs) (hg : g ∈ gs) (k : Kept wr w' (fun b => b = g)) (mk : Value → Value) : DGot w P Z0 d0 Z m mk (.returned (mk (dv P Z d))) w' := by
 have h2 := h.set hg k
 exact ⟨d, rfl, h2.dc, h2.bel, h2.mv⟩
end
theorem tkE_full {l : List M.R} {n : Int} (h4 : tkE l n = 4) : takeB l n = false ∧ tkL l n = l ∧ ∀ T, tkT l n T = T := by
 have hb4 : takeB l n = false := by
  rcases Bool.eq_false_or_eq_true (takeB l n) with e | e
  ·unfold tkE at h4
   rw [if_pos e] at h4
   split at h4 <;> omega
  ·exact e
 exact ⟨hb4, by unfold tkL; rw [hb4]; rfl, fun T => by unfold tkT; rw [hb4]; rfl⟩
section
variable {w : World} {P m k : Nat} {Z : St} {d : Dc}
set_option maxHeartbeats 8000000 in
theorem rctake10 (h : Doc w Z d m) (hP1 : 1 ≤ P) (hP2 : P ≤ 1048576) (hg : M.Good Z.K) (hF : Fit P Z.l Z.T k) (hk : k ≤ 80000) (hL : Z.l.length + (M.all Z.K).length ≤ 100) (hK : ∀ r ∈ M.all Z.K, 0 ≤ r.p ∧ 1 ≤ r.n ∧ r.p + r.n ≤ P) (n : Int) :
  Calls Tryz.prog 31 #[dv P Z d, .int .i64 n] w (DGot w P Z d (Z.of (tw P Z.l Z.K Z.T n)) m fun v => .tuple #[v, .int .i64 (tw P Z.l Z.K Z.T n).p, .int .i64 (tw P Z.l Z.K Z.T n).e]) := by
 have hlk := h.lk hg
 have HG := Lib.hid (And.intro hP1 (And.intro hP2 (And.intro hF (And.intro hk (And.intro hL (And.intro hK (And.intro hg hlk)))))))
 have TRIM := Lib.hid (fun W hW => rctrim10 (w := W) (d := d) (m := m) hW hP1 hP2 hg hF hk hL hK)
 obtain ⟨w1, hw1⟩ : ∃ w1, w1 = (w.alloc (.cells (dcs P Z d).toArray 34)).alloc (.cells d0s.toArray 34) := ⟨_, rfl⟩
 obtain ⟨g1, hg1⟩ : ∃ g, g = w.heap.size := ⟨_, rfl⟩
 obtain ⟨g2, hg2⟩ : ∃ g, g = w.heap.size + 1 := ⟨_, rfl⟩
 have HT := Lib.hid (show Bxn w1 g1 (dcs P Z d) ∧ Bxn w1 g2 d0s ∧ Fr w w1 m Z d Z d [g2, g1] ∧ g1 < g2 from by
  have b := box_two w P Z d
  rw [hw1, hg1, hg2]
  have f := ((Fr.begin h).new (.cells (dcs P Z d).toArray 34)).new (.cells d0s.toArray 34)
  rw [size1] at f
  exact ⟨b.1, b.2.1, f, by omega⟩)
 have c3 := HT.out.1.cs 3 _ rfl
 have c4 := HT.out.1.cs 4 _ rfl
 have c5 := HT.out.1.cs 5 _ rfl
 clear h hP1 hP2 hF hk hL hK hlk
 go_enter Tryz.func31, Tryz.ntmps31
 go_upto_region 1 with fail
 rw [show (w.alloc (.cells #[.int .i64 (P : Int), .slice d.A d.n d.c, .int .i64 (Z.u : Int), .int .i64 (P : Int), .slice d.Al d.z d.cl, .int .i64 Z.T, .slice d.Ak d.zk d.ck] 34)).alloc (.cells #[.int .i64 0, .slice none 0 0, .int .i64 0, .int .i64 0, .slice none 0 0, .int .i64 0, .slice none 0 0] 34) = w1 from hw1.symm, ← hg2, ← hg1]
 clear hw1 hg1 hg2
 go_wp2_with fail
 have D1 := HT.out.2.2.1.dc
 refine (rtake6_f w1 P d.Al d.z d.cl Z.T Z.l D1.zl D1.runs (by have := D1.zl; have := HG.out.2.2.2.2.1; omega) HG.out.2.2.1.ok (by have := HG.out.2.1; omega) HG.out.2.2.1.t0 (by have := HG.out.2.2.1.t1; have := HG.out.2.2.2.1; omega) n).mono ?_
 rintro e w2 ⟨A', z', c', rfl, hz, hR, hb, hFr⟩
 have bx := Bxn.new w2 31 [.int .i64 (P : Int), .slice A' z' c', .int .i64 (tkT Z.l n Z.T)]
 have b3 := (Below.refl w2.heap.size w2).alloc (Nat.le_refl _) (.cells [.int .i64 (P : Int), .slice A' z' c', .int .i64 (tkT Z.l n Z.T)].toArray 31)
 have hp := D1.pages (T' := tkT Z.l n Z.T) (c' := c') hz hR hb hFr
 have fO := (HT.out.2.2.1.below hb).new (.cells [.int .i64 (P : Int), .slice A' z' c', .int .i64 (tkT Z.l n Z.T)].toArray 31)
 have fN := (HT.out.2.2.1.to hp.1 hb hp.2).new (.cells [.int .i64 (P : Int), .slice A' z' c', .int .i64 (tkT Z.l n Z.T)].toArray 31)
 have y1 := (HT.out.1.below (by simp) hb).below (by simp) b3
 have y2 := (HT.out.2.1.below (by simp) hb).below (by simp) b3
 have l2 := HT.out.2.1.lt (by simp)
 have l3 := hb.size
 have h12 := HT.out.2.2.2
 clear HT D1 hp hz hR hb hFr c3 c4 c5 b3
 go_upto_region 2 with fail
 obtain ⟨w3, hw3⟩ : ∃ w3, w3 = w2.alloc (.cells #[.int .i64 (P : Int), .slice A' z' c', .int .i64 (tkT Z.l n Z.T)] 31) := ⟨_, rfl⟩
 have e3 : w2.alloc (.cells [.int .i64 (P : Int), .slice A' z' c', .int .i64 (tkT Z.l n Z.T)].toArray 31) = w3 := hw3.symm
 rw [← hw3]
 rw [e3] at y1 y2 fO fN bx
 obtain ⟨g3, hg3⟩ : ∃ g, g = w2.heap.size := ⟨_, rfl⟩
 rw [← hg3] at fO fN bx ⊢
 have HY1 := Lib.hid y1
 have HY2 := Lib.hid y2
 have HY3 := Lib.hid bx
 have HFO := Lib.hid fO
 have HF := Lib.hid fN
 have HO := Lib.hid (show g1 < g2 ∧ g2 < g3 from ⟨h12, by omega⟩)
 clear fO fN bx y1 y2 l2 l3 e3 hw3 hg3 h12
 by_cases h4 : tkE Z.l n = 4
 ·have hf := tkE_full h4
  have c6 := HY1.out.cs 6 _ rfl
  rw [h4]
  by_cases hzk : d.zk = 0
  ·rw [hzk] at c6
   have hs0 : M.sum Z.K = 0 := M.sum_zero.2 (List.eq_nil_of_length_eq_zero (by have := HG.out.2.2.2.2.2.2.2.1; omega))
   have HW := Lib.hid (show tw P Z.l Z.K Z.T n = ⟨takeP Z.l n, 4, tkL Z.l n, Z.K, tkT Z.l n Z.T⟩ from by unfold tw; rw [if_neg (fun e => e.2 hs0), h4])
   clear h4 hf hs0 HFO hzk
   go_upto_region 6 with fail
   clear c6
   have z3 := HY1.out.fz 3
   have z4 := HY1.out.fz 4
   have z5 := HY1.out.fz 5
   have u0 := HY3.out.cs 0 _ rfl
   have u1 := HY3.out.cs 1 _ rfl
   have u2 := HY3.out.cs 2 _ rfl
   have c3 := HY1.out.cs 3 _ rfl
   have c4 := HY1.out.cs 4 _ rfl
   have c5 := HY1.out.cs 5 _ rfl
   go_upto_region 7 with fail
   have k7 := set3_kept w3 g1 3 4 5 (.int .i64 (P : Int)) (.slice A' z' c') (.int .i64 (tkT Z.l n Z.T))
   have y7 := set3_at HY1.out (.int .i64 (P : Int)) (.slice A' z' c') (.int .i64 (tkT Z.l n Z.T))
   have F7 := HF.out.set (g := g1) (by simp) k7
   have x7 := HY2.out.kept (by simp) k7 (fun e => by have := HO.out; omega)
   generalize ((World.setCell _ ⟨g1, 3, none⟩ (.int .i64 (P : Int))).setCell ⟨g1, 4, none⟩ (.slice A' z' c')).setCell ⟨g1, 5, none⟩ (.int .i64 (tkT Z.l n Z.T)) = w7 at *
   clear k7 z3 z4 z5 u0 u1 u2 c3 c4 c5
   have c0 := y7.cs 0 _ rfl
   have c1 := y7.cs 1 _ rfl
   have c2 := y7.cs 2 _ rfl
   have c3 := y7.cs 3 _ rfl
   have c4 := y7.cs 4 _ rfl
   have c5 := y7.cs 5 _ rfl
   have c6 := y7.cs 6 _ rfl
   have f0 := x7.fz 0
   have f1 := x7.fz 1
   have f2 := x7.fz 2
   have f3 := x7.fz 3
   have f4 := x7.fz 4
   have f5 := x7.fz 5
   have f6 := x7.fz 6
   have e0 := x7.cs 0 _ rfl
   have e1 := x7.cs 1 _ rfl
   have e2 := x7.cs 2 _ rfl
   have e3 := x7.cs 3 _ rfl
   have e4 := x7.cs 4 _ rfl
   have e5 := x7.cs 5 _ rfl
   have e6 := x7.cs 6 _ rfl
   have H7 := Lib.hid (And.intro F7 x7)
   clear F7 x7 y7 HY1 HY2 HY3 HF
   go_wp2_with fail
   rw [HW.out]
   have y8 := H7.out.2.set7 (.int .i64 (P : Int)) (.slice d.A d.n d.c) (.int .i64 ((Z).u : Int)) (.int .i64 (P : Int)) (.slice A' z' c') (.int .i64 (tkT Z.l n Z.T)) (.slice d.Ak d.zk d.ck)
   have F8 := H7.out.1.done (P := P) (g := g2) (by simp) (kept_set7 w7 g2 (.int .i64 (P : Int)) (.slice d.A d.n d.c) (.int .i64 ((Z).u : Int)) (.int .i64 (P : Int)) (.slice A' z' c') (.int .i64 (tkT Z.l n Z.T)) (.slice d.Ak d.zk d.ck)) (fun v => .tuple #[v, .int .i64 (takeP Z.l n), .int .i64 4])
   refine bodyPost_ret (v := .tuple #[.agg #[.int .i64 (P : Int), .slice d.A d.n d.c, .int .i64 ((Z).u : Int), .int .i64 (P : Int), .slice A' z' c', .int .i64 (tkT Z.l n Z.T), .slice d.Ak d.zk d.ck], .int .i64 (takeP Z.l n), .int .i64 4]) ?_ rfl ?_
   rotate_left
   ·exact F8
   ·clear F8
    have t0 := y8.cs 0 _ rfl
    have t1 := y8.cs 1 _ rfl
    have t2 := y8.cs 2 _ rfl
    have t3 := y8.cs 3 _ rfl
    have t4 := y8.cs 4 _ rfl
    have t5 := y8.cs 5 _ rfl
    have t6 := y8.cs 6 _ rfl
    generalize World.setCell _ ⟨g2, 6, none⟩ _ = w8 at t0 t1 t2 t3 t4 t5 t6 ⊢
    simp [results, go_sem, t0, t1, t2, t3, t4, t5, t6]
  ·have hs0 : M.sum Z.K ≠ 0 := fun e => hzk (by have h := M.sum_zero.1 e; have := HG.out.2.2.2.2.2.2.2.1; rw [h] at this; exact this)
   have HW := Lib.hid (show tw P Z.l Z.K Z.T n = ⟨takeP (Z.trim P).l n, tkE (Z.trim P).l n, tkL (Z.trim P).l n, M.empty, tkT (Z.trim P).l n (Z.trim P).T⟩ from by unfold tw; rw [if_pos ⟨h4, hs0⟩]; rfl)
   have hzp : decide (0 < (d.zk : Int)) = true := by simp; omega
   clear h4 hf hs0 HF
   have c0 := HY1.out.cs 0 _ rfl
   have c1 := HY1.out.cs 1 _ rfl
   have c2 := HY1.out.cs 2 _ rfl
   have c3 := HY1.out.cs 3 _ rfl
   have c4 := HY1.out.cs 4 _ rfl
   have c5 := HY1.out.cs 5 _ rfl
   go_wp2_with fail
   refine (TRIM.out w3 HFO.out.dc).mono ?_
   rintro e w4 ⟨d2, rfl, D2, b2, mv2⟩
   clear c0 c1 c2 c3 c4 c5 c6
   have ff4 := (HFO.out.to D2 b2 mv2).new (.cells (dcs P (Z.trim P) d2).toArray 34)
   have bx := Bxn.new w4 34 (dcs P (Z.trim P) d2)
   have b4 := (Below.refl w4.heap.size w4).alloc (Nat.le_refl _) (.cells (dcs P (Z.trim P) d2).toArray 34)
   have y1 := (HY1.out.below (by simp) b2).below (by simp) b4
   have y2 := (HY2.out.below (by simp) b2).below (by simp) b4
   have y3 := (HY3.out.below (by simp) b2).below (by simp) b4
   have l1 := HY1.out.lt (by simp)
   have l4 := b2.size
   go_upto_region 4 with fail
   obtain ⟨w5, hw5⟩ : ∃ w5, w5 = w4.alloc (.cells (dcs P (Z.trim P) d2).toArray 34) := ⟨_, rfl⟩
   obtain ⟨g4, hg4⟩ : ∃ g, g = w4.heap.size := ⟨_, rfl⟩
   rw [show w4.alloc (.cells #[.int .i64 (P : Int), .slice d2.A d2.n d2.c, .int .i64 ((Z.trim P).u : Int), .int .i64 (P : Int), .slice d2.Al d2.z d2.cl, .int .i64 (Z.trim P).T, .slice d2.Ak d2.zk d2.ck] 34) = w5 from hw5.symm, ← hg4]
   rw [← hw5] at ff4 bx y1 y2 y3
   rw [← hg4] at ff4 bx
   have HY2 := Lib.hid y2
   have HY3 := Lib.hid y3
   have HY1 := Lib.hid y1
   have HF := Lib.hid ff4
   have h34 : g1 < g4 := by omega
   have x0 := bx.cs 0 _ rfl
   have x1 := bx.cs 1 _ rfl
   have x2 := bx.cs 2 _ rfl
   have x3 := bx.cs 3 _ rfl
   have x4 := bx.cs 4 _ rfl
   have x5 := bx.cs 5 _ rfl
   have x6 := bx.cs 6 _ rfl
   have f0 := y1.fz 0
   have f1 := y1.fz 1
   have f2 := y1.fz 2
   have f3 := y1.fz 3
   have f4 := y1.fz 4
   have f5 := y1.fz 5
   have f6 := y1.fz 6
   have e0 := y1.cs 0 _ rfl
   have e1 := y1.cs 1 _ rfl
   have e2 := y1.cs 2 _ rfl
   have e3 := y1.cs 3 _ rfl
   have e4 := y1.cs 4 _ rfl
   have e5 := y1.cs 5 _ rfl
   have e6 := y1.cs 6 _ rfl
   clear y1 y2 y3 bx ff4 b4 hw5 hg4 l1 l4 hzp
   go_upto_region 5 with fail
   have k6 := kept_set7 w5 g1 (.int .i64 (P : Int)) (.slice d2.A d2.n d2.c) (.int .i64 ((Z.trim P).u : Int)) (.int .i64 (P : Int)) (.slice d2.Al d2.z d2.cl) (.int .i64 (Z.trim P).T) (.slice d2.Ak d2.zk d2.ck)
   have y1 := HY1.out.set7 (.int .i64 (P : Int)) (.slice d2.A d2.n d2.c) (.int .i64 ((Z.trim P).u : Int)) (.int .i64 (P : Int)) (.slice d2.Al d2.z d2.cl) (.int .i64 (Z.trim P).T) (.slice d2.Ak d2.zk d2.ck)
   have y2 := HY2.out.kept (by simp) k6 (fun e => by have := HO.out; omega)
   have y3 := HY3.out.kept (by simp) k6 (fun e => by have := HO.out; omega)
   have ff6 := HF.out.set (g := g1) (by simp) k6
   generalize World.setCell _ ⟨g1, 6, none⟩ (.slice d2.Ak d2.zk d2.ck) = w6 at *
   clear HY1 HY2 HY3 HF k6 x0 x1 x2 x3 x4 x5 x6 f0 f1 f2 f3 f4 f5 e0 e1 e2 e3 e4 e5 e6
   have c3 := y1.cs 3 _ rfl
   have c4 := y1.cs 4 _ rfl
   have c5 := y1.cs 5 _ rfl
   have HY := Lib.hid (And.intro y1 (And.intro y2 (And.intro y3 ff6)))
   clear y1 y2 y3 ff6
   go_wp2_with fail
   have FT := Lib.hid (show Fit P (Z.trim P).l (Z.trim P).T (k + 28) ∧ (Z.trim P).l.length ≤ 100 from by
    have f := giveAll_fit (by omega) (by have := HG.out.2.1; omega) (M.all Z.K) Z.l Z.T k HG.out.2.2.1
    have g := giveAll_length (P := P) (M.all Z.K) Z.l Z.T
    have := M.all_length hg
    exact ⟨f.mono (by omega), by have := HG.out.2.2.2.2.1; show (giveAll P (M.all Z.K) Z.l Z.T).1.length ≤ 100; omega⟩)
   have D6 := HY.out.2.2.2.dc
   refine (rtake6_f w6 P d2.Al d2.z d2.cl (Z.trim P).T (Z.trim P).l D6.zl D6.runs (by have := D6.zl; have := FT.out.2; omega) FT.out.1.ok (by have := HG.out.2.1; omega) FT.out.1.t0 (by have := FT.out.1.t1; have := HG.out.2.2.2.1; omega) n).mono ?_
   rintro e v7 ⟨A5, zz5, k5, rfl, hz, hR, hb, hFr⟩
   have hp := D6.pages (T' := tkT (Z.trim P).l n (Z.trim P).T) (c' := k5) hz hR hb hFr
   have f7 := HY.out.2.2.2.to hp.1 hb hp.2
   have y1 := HY.out.1.below (by simp) hb
   have y2 := HY.out.2.1.below (by simp) hb
   have y3 := HY.out.2.2.1.below (by simp) hb
   have H7 := Lib.hid (And.intro y1 (And.intro y2 (And.intro y3 f7)))
   have z0 := y3.fz 0
   have z1 := y3.fz 1
   have z2 := y3.fz 2
   have u0 := y3.cs 0 _ rfl
   have u1 := y3.cs 1 _ rfl
   have u2 := y3.cs 2 _ rfl
   clear y1 y2 y3 f7 hp hz hR hb hFr D6 HY c3 c4 c5
   go_upto_region 6 with fail
   have k8 := set3_kept v7 g3 0 1 2 (.int .i64 (P : Int)) (.slice A5 zz5 k5) (.int .i64 (tkT (Z.trim P).l n (Z.trim P).T))
   have HY1 := Lib.hid (H7.out.1.kept (by simp) k8 (fun e => by have := HO.out; omega))
   have HY2 := Lib.hid (H7.out.2.1.kept (by simp) k8 (fun e => by have := HO.out; omega))
   have HY3 := Lib.hid (H7.out.2.2.1.set3 (.int .i64 (P : Int)) (.slice A5 zz5 k5) (.int .i64 (tkT (Z.trim P).l n (Z.trim P).T)))
   have HF := Lib.hid (H7.out.2.2.2.set (g := g3) (by simp) k8)
   clear H7 k8 z0 z1 z2 u0 u1 u2
   generalize ((World.setCell _ ⟨g3, 0, none⟩ (.int .i64 (P : Int))).setCell ⟨g3, 1, none⟩ (.slice A5 zz5 k5)).setCell ⟨g3, 2, none⟩ (.int .i64 (tkT (Z.trim P).l n (Z.trim P).T)) = wz at *
   have z3 := HY1.out.fz 3
   have z4 := HY1.out.fz 4
   have z5 := HY1.out.fz 5
   have u0 := HY3.out.cs 0 _ rfl
   have u1 := HY3.out.cs 1 _ rfl
   have u2 := HY3.out.cs 2 _ rfl
   have c3 := HY1.out.cs 3 _ rfl
   have c4 := HY1.out.cs 4 _ rfl
   have c5 := HY1.out.cs 5 _ rfl
   go_upto_region 7 with fail
   have k7 := set3_kept wz g1 3 4 5 (.int .i64 (P : Int)) (.slice A5 zz5 k5) (.int .i64 (tkT (Z.trim P).l n (Z.trim P).T))
   have y7 := set3_at HY1.out (.int .i64 (P : Int)) (.slice A5 zz5 k5) (.int .i64 (tkT (Z.trim P).l n (Z.trim P).T))
   have F7 := HF.out.set (g := g1) (by simp) k7
   have x7 := HY2.out.kept (by simp) k7 (fun e => by have := HO.out; omega)
   generalize ((World.setCell _ ⟨g1, 3, none⟩ (.int .i64 (P : Int))).setCell ⟨g1, 4, none⟩ (.slice A5 zz5 k5)).setCell ⟨g1, 5, none⟩ (.int .i64 (tkT (Z.trim P).l n (Z.trim P).T)) = w7 at *
   clear k7 z3 z4 z5 u0 u1 u2 c3 c4 c5
   have c0 := y7.cs 0 _ rfl
   have c1 := y7.cs 1 _ rfl
   have c2 := y7.cs 2 _ rfl
   have c3 := y7.cs 3 _ rfl
   have c4 := y7.cs 4 _ rfl
   have c5 := y7.cs 5 _ rfl
   have c6 := y7.cs 6 _ rfl
   have f0 := x7.fz 0
   have f1 := x7.fz 1
   have f2 := x7.fz 2
   have f3 := x7.fz 3
   have f4 := x7.fz 4
   have f5 := x7.fz 5
   have f6 := x7.fz 6
   have e0 := x7.cs 0 _ rfl
   have e1 := x7.cs 1 _ rfl
   have e2 := x7.cs 2 _ rfl
   have e3 := x7.cs 3 _ rfl
   have e4 := x7.cs 4 _ rfl
   have e5 := x7.cs 5 _ rfl
   have e6 := x7.cs 6 _ rfl
   have H7 := Lib.hid (And.intro F7 x7)
   clear F7 x7 y7 HY1 HY2 HY3 HF
   go_wp2_with fail
   rw [HW.out]
   have y8 := H7.out.2.set7 (.int .i64 (P : Int)) (.slice d2.A d2.n d2.c) (.int .i64 ((Z.trim P).u : Int)) (.int .i64 (P : Int)) (.slice A5 zz5 k5) (.int .i64 (tkT (Z.trim P).l n (Z.trim P).T)) (.slice d2.Ak d2.zk d2.ck)
   have F8 := H7.out.1.done (P := P) (g := g2) (by simp) (kept_set7 w7 g2 (.int .i64 (P : Int)) (.slice d2.A d2.n d2.c) (.int .i64 ((Z.trim P).u : Int)) (.int .i64 (P : Int)) (.slice A5 zz5 k5) (.int .i64 (tkT (Z.trim P).l n (Z.trim P).T)) (.slice d2.Ak d2.zk d2.ck)) (fun v => .tuple #[v, .int .i64 (takeP (Z.trim P).l n), .int .i64 (tkE (Z.trim P).l n)])
   refine bodyPost_ret (v := .tuple #[.agg #[.int .i64 (P : Int), .slice d2.A d2.n d2.c, .int .i64 ((Z.trim P).u : Int), .int .i64 (P : Int), .slice A5 zz5 k5, .int .i64 (tkT (Z.trim P).l n (Z.trim P).T), .slice d2.Ak d2.zk d2.ck], .int .i64 (takeP (Z.trim P).l n), .int .i64 (tkE (Z.trim P).l n)]) ?_ rfl ?_
   rotate_left
   ·exact F8
   ·clear F8
    have t0 := y8.cs 0 _ rfl
    have t1 := y8.cs 1 _ rfl
    have t2 := y8.cs 2 _ rfl
    have t3 := y8.cs 3 _ rfl
    have t4 := y8.cs 4 _ rfl
    have t5 := y8.cs 5 _ rfl
    have t6 := y8.cs 6 _ rfl
    generalize World.setCell _ ⟨g2, 6, none⟩ _ = w8 at t0 t1 t2 t3 t4 t5 t6 ⊢
    simp [results, go_sem, t0, t1, t2, t3, t4, t5, t6]
 ·have HW := Lib.hid (show tw P Z.l Z.K Z.T n = ⟨takeP Z.l n, tkE Z.l n, tkL Z.l n, Z.K, tkT Z.l n Z.T⟩ from by unfold tw; rw [if_neg (fun e => h4 e.1)])
  obtain ⟨q, hq⟩ : ∃ q, q = tkE Z.l n := ⟨_, rfl⟩
  rw [← hq] at h4 HW ⊢
  have hb4 : (q == 4) = false := by simpa using h4
  have hd4 : decide (q = 4) = false := by simpa using h4
  clear hq h4 HFO
  have z3 := HY1.out.fz 3
  have z4 := HY1.out.fz 4
  have z5 := HY1.out.fz 5
  have u0 := HY3.out.cs 0 _ rfl
  have u1 := HY3.out.cs 1 _ rfl
  have u2 := HY3.out.cs 2 _ rfl
  have c3 := HY1.out.cs 3 _ rfl
  have c4 := HY1.out.cs 4 _ rfl
  have c5 := HY1.out.cs 5 _ rfl
  go_upto_region 7 with fail
  have k7 := set3_kept w3 g1 3 4 5 (.int .i64 (P : Int)) (.slice A' z' c') (.int .i64 (tkT Z.l n Z.T))
  have y7 := set3_at HY1.out (.int .i64 (P : Int)) (.slice A' z' c') (.int .i64 (tkT Z.l n Z.T))
  have F7 := HF.out.set (g := g1) (by simp) k7
  have x7 := HY2.out.kept (by simp) k7 (fun e => by have := HO.out; omega)
  generalize ((World.setCell _ ⟨g1, 3, none⟩ (.int .i64 (P : Int))).setCell ⟨g1, 4, none⟩ (.slice A' z' c')).setCell ⟨g1, 5, none⟩ (.int .i64 (tkT Z.l n Z.T)) = w7 at *
  clear k7 z3 z4 z5 u0 u1 u2 c3 c4 c5
  have c0 := y7.cs 0 _ rfl
  have c1 := y7.cs 1 _ rfl
  have c2 := y7.cs 2 _ rfl
  have c3 := y7.cs 3 _ rfl
  have c4 := y7.cs 4 _ rfl
  have c5 := y7.cs 5 _ rfl
  have c6 := y7.cs 6 _ rfl
  have f0 := x7.fz 0
  have f1 := x7.fz 1
  have f2 := x7.fz 2
  have f3 := x7.fz 3
  have f4 := x7.fz 4
  have f5 := x7.fz 5
  have f6 := x7.fz 6
  have e0 := x7.cs 0 _ rfl
  have e1 := x7.cs 1 _ rfl
  have e2 := x7.cs 2 _ rfl
  have e3 := x7.cs 3 _ rfl
  have e4 := x7.cs 4 _ rfl
  have e5 := x7.cs 5 _ rfl
  have e6 := x7.cs 6 _ rfl
  have H7 := Lib.hid (And.intro F7 x7)
  clear F7 x7 y7 HY1 HY2 HY3 HF
  go_wp2_with fail
  rw [HW.out]
  have y8 := H7.out.2.set7 (.int .i64 (P : Int)) (.slice d.A d.n d.c) (.int .i64 ((Z).u : Int)) (.int .i64 (P : Int)) (.slice A' z' c') (.int .i64 (tkT Z.l n Z.T)) (.slice d.Ak d.zk d.ck)
  have F8 := H7.out.1.done (P := P) (g := g2) (by simp) (kept_set7 w7 g2 (.int .i64 (P : Int)) (.slice d.A d.n d.c) (.int .i64 ((Z).u : Int)) (.int .i64 (P : Int)) (.slice A' z' c') (.int .i64 (tkT Z.l n Z.T)) (.slice d.Ak d.zk d.ck)) (fun v => .tuple #[v, .int .i64 (takeP Z.l n), .int .i64 q])
  refine bodyPost_ret (v := .tuple #[.agg #[.int .i64 (P : Int), .slice d.A d.n d.c, .int .i64 ((Z).u : Int), .int .i64 (P : Int), .slice A' z' c', .int .i64 (tkT Z.l n Z.T), .slice d.Ak d.zk d.ck], .int .i64 (takeP Z.l n), .int .i64 q]) ?_ rfl ?_
  rotate_left
  ·exact F8
  ·clear F8
   have t0 := y8.cs 0 _ rfl
   have t1 := y8.cs 1 _ rfl
   have t2 := y8.cs 2 _ rfl
   have t3 := y8.cs 3 _ rfl
   have t4 := y8.cs 4 _ rfl
   have t5 := y8.cs 5 _ rfl
   have t6 := y8.cs 6 _ rfl
   generalize World.setCell _ ⟨g2, 6, none⟩ _ = w8 at t0 t1 t2 t3 t4 t5 t6 ⊢
   simp [results, go_sem, t0, t1, t2, t3, t4, t5, t6]
end
end Go.Proofs.YtmboibipabkhaaaGreat
