/-
  The document's Get.
-/
import Derived.Test.YtmboibipabkhaaaGreatKxX10
import Derived.Test.YtmboibipabkhaaaGreatKxV10
namespace Go.Proofs.YtmboibipabkhaaaGreat
open Go.ChangeShapes Go.WideShapes Go.ChangeAt Go.RowKit Go.Deep
set_option linter.unusedVariables false
set_option maxRecDepth 20000
theorem set3_at0 {w : World} {g : Nat} {v0 v1 v2 v3 v4 v5 v6 : Value} (h : Bxn w g [v0, v1, v2, v3, v4, v5, v6]) (u0 u1 u2 : Value) :
  Bxn (((w.setCell ⟨g, 0, none⟩ u0).setCell ⟨g, 1, none⟩ u1).setCell ⟨g, 2, none⟩ u2) g [u0, u1, u2, v3, v4, v5, v6] :=
 (((h.set 0 (by simp) u0).set 1 (by simp) u1).set 2 (by simp) u2)
theorem set1_at6 {w : World} {g : Nat} {v0 v1 v2 v3 v4 v5 v6 : Value} (h : Bxn w g [v0, v1, v2, v3, v4, v5, v6]) (u6 : Value) :
 Bxn (w.setCell ⟨g, 6, none⟩ u6) g [v0, v1, v2, v3, v4, v5, u6] := h.set 6 (by simp) u6
theorem Fr.more {w wr : World} {m m' : Nat} {Z0 Z : St} {d0 d : Dc} {gs : List Nat} (h : Fr w wr m Z0 d0 Z d gs) (hm : m ≤ m') : Fr w wr m' Z0 d0 Z d gs := ⟨h.dc.more hm, h.bel, h.mv, h.og⟩
section
variable {w : World} {P m k : Nat} {Z : St} {d : Dc}
theorem rpop10 (h : Doc w Z d m) (hg : M.Good Z.K) (cl : Int) :
  Calls Tryz.prog 30 #[.slice d.Ak d.zk d.ck, .int .i64 cl] w fun e w' => ∃ A2 z2 c2 kl2, e = .returned (.tuple #[.slice A2 z2 c2, .int .i64 (M.popV Z.K cl), .bool (M.popB Z.K cl)]) ∧ Below w.heap.size w w' ∧ Doc w' { Z with K := M.popF Z.K cl } { d with Ak := A2, zk := z2, ck := c2, kl := kl2 } m ∧ ∀ x, x < w.heap.size → Dof Z d x → Dof { Z with K := M.popF Z.K cl } { d with Ak := A2, zk := z2, ck := c2, kl := kl2 } x := by
 have hl := (h.lk hg).2
 refine (rfpop_any w d.Ak d.kl d.zk d.ck h.kz h.kept (by omega) h.kc cl).mono ?_
 unfold GotP
 rw [h.sel]
 rintro e w' ⟨l', ⟨A2, z2, c2, rfl, hz, hc, hr, hb, hm⟩, hs, hle⟩
 have hp := h.keeps hz hc hr hs hb hm
 exact ⟨A2, z2, c2, l', rfl, hb, hp.1, hp.2⟩
theorem rwrite10 (h : Doc w Z d m) (hm : m ≤ 900) (hP : P ≤ 1048576) (hu : Z.u ≤ 900000000000) (x p kd : Int) (o : Nat) (ho : o < 18446744073709551616) (h0 : 0 ≤ x) (h1 : x < P) (h2 : 1 ≤ p) (h3 : p ≤ 1048576) (h4 : 0 ≤ kd) (h5 : kd ≤ 255) :
  Calls Tryz.prog 32 #[refV P d.A d.n d.c Z.u, .int .i64 x, .agg #[.int .i64 p, .int .i64 kd, .int .u64 (o : Int), .int .u64 0]] w fun e w' => ∃ A2 n2 c2 lg2, e = .returned (.tuple #[refV P A2 n2 c2 (Z.u + 1), .int .i64 0]) ∧ Below w.heap.size w w' ∧ Doc w' { Z with u := Z.u + 1, f := M.wr Z.f (x.toNat * 4096) (M.hd p.toNat kd.toNat o 0) } { d with A := A2, n := n2, c := c2, lg := lg2 } (m + 1) ∧ ∀ y, y < w.heap.size → Dof Z d y → Dof { Z with u := Z.u + 1, f := M.wr Z.f (x.toNat * 4096) (M.hd p.toNat kd.toNat o 0) } { d with A := A2, n := n2, c := c2, lg := lg2 } y := by
 have hf := h.few
 have q := docWrite w P d.A d.n d.c Z.u hP d.lg h.nl h.log h.ok (by omega) h.h0 hu x p kd o 0 ho (by omega)
 have eE : wE P x p kd = 0 := by
  unfold wE
  rw [if_pos ((M.right_iff p kd).2 ⟨h2, h3, h4, h5⟩), if_pos (by unfold pin; simp; omega)]
 have eT : wT P x p kd = 1 := by unfold wT; rw [if_pos eE]
 have eF : wF P (M.byteAt d.lg) x p kd o 0 = M.wr Z.f (x.toNat * 4096) (M.hd p.toNat kd.toNat o 0) := by unfold wF; rw [if_pos eE, h.f]
 rw [eE, eT, eF] at q
 refine q.mono ?_
 rintro e w' ⟨l', A', c', n', T', hT, rfl, hn, hl, hfr, hb, hby, hle, hok⟩
 subst hT
 have hp := h.bytes (T' := Z.u + 1) hn hl hfr hb hby hle hok
 exact ⟨A', n', c', l', rfl, hb, hp.1, hp.2⟩
set_option maxHeartbeats 4000000 in
theorem rcget_bad10 (h : Doc w Z d m) (pages kind o : Int) (hb : getB pages kind = false) :
  Calls Tryz.prog 7 #[dv P Z d, .int .i64 pages, .int .i64 kind, .int .u64 o] w (DGot w P Z d Z m fun v => .tuple #[v, .int .i64 0, .int .i64 0, .int .i64 1]) := by
 have hn : ¬ (1 ≤ pages ∧ pages ≤ 1048576 ∧ 0 ≤ kind ∧ kind ≤ 255) := by rw [← getB_iff, hb]; simp
 obtain ⟨w1, hw1⟩ : ∃ w1, w1 = (w.alloc (.cells (dcs P Z d).toArray 34)).alloc (.cells d0s.toArray 34) := ⟨_, rfl⟩
 obtain ⟨g1, hg1⟩ : ∃ g, g = w.heap.size := ⟨_, rfl⟩
 obtain ⟨g2, hg2⟩ : ∃ g, g = w.heap.size + 1 := ⟨_, rfl⟩
 have HT := Lib.hid (show Bxn w1 g1 (dcs P Z d) ∧ Bxn w1 g2 d0s ∧ Fr w w1 m Z d Z d [g2, g1] ∧ g1 < g2 from by
  have b := box_two w P Z d
  rw [hw1, hg1, hg2]
  have f := ((Fr.begin h).new (.cells (dcs P Z d).toArray 34)).new (.cells d0s.toArray 34)
  rw [size1] at f
  exact ⟨b.1, b.2.1, f, by omega⟩)
 clear h hb
 rcases Classical.em (pages < 1) with e1 | e1
 ·have t1 : decide (pages < 1) = true := by simpa using e1
  clear e1 hn
  go_enter Tryz.func7, Tryz.ntmps7
  go_upto_region 1 with fail
  rw [show (w.alloc (.cells #[.int .i64 (P : Int), .slice d.A d.n d.c, .int .i64 (Z.u : Int), .int .i64 (P : Int), .slice d.Al d.z d.cl, .int .i64 Z.T, .slice d.Ak d.zk d.ck] 34)).alloc (.cells #[.int .i64 0, .slice none 0 0, .int .i64 0, .int .i64 0, .slice none 0 0, .int .i64 0, .slice none 0 0] 34) = w1 from hw1.symm, ← hg2, ← hg1]
  clear hw1 hg1 hg2
  have c0 := HT.out.1.cs 0 _ rfl
  have c1 := HT.out.1.cs 1 _ rfl
  have c2 := HT.out.1.cs 2 _ rfl
  have c3 := HT.out.1.cs 3 _ rfl
  have c4 := HT.out.1.cs 4 _ rfl
  have c5 := HT.out.1.cs 5 _ rfl
  have c6 := HT.out.1.cs 6 _ rfl
  have f0 := HT.out.2.1.fz 0
  have f1 := HT.out.2.1.fz 1
  have f2 := HT.out.2.1.fz 2
  have f3 := HT.out.2.1.fz 3
  have f4 := HT.out.2.1.fz 4
  have f5 := HT.out.2.1.fz 5
  have f6 := HT.out.2.1.fz 6
  have e0 := HT.out.2.1.cs 0 _ rfl
  have e1 := HT.out.2.1.cs 1 _ rfl
  have e2 := HT.out.2.1.cs 2 _ rfl
  have e3 := HT.out.2.1.cs 3 _ rfl
  have e4 := HT.out.2.1.cs 4 _ rfl
  have e5 := HT.out.2.1.cs 5 _ rfl
  have e6 := HT.out.2.1.cs 6 _ rfl
  go_wp2_with fail
  have y8 := HT.out.2.1.set7 (.int .i64 (P : Int)) (.slice d.A d.n d.c) (.int .i64 (Z.u : Int)) (.int .i64 (P : Int)) (.slice d.Al d.z d.cl) (.int .i64 Z.T) (.slice d.Ak d.zk d.ck)
  have F8 := HT.out.2.2.1.done (P := P) (g := g2) (by simp) (kept_set7 w1 g2 (.int .i64 (P : Int)) (.slice d.A d.n d.c) (.int .i64 (Z.u : Int)) (.int .i64 (P : Int)) (.slice d.Al d.z d.cl) (.int .i64 Z.T) (.slice d.Ak d.zk d.ck)) (fun v => .tuple #[v, .int .i64 0, .int .i64 0, .int .i64 1])
  refine bodyPost_ret (v := .tuple #[.agg #[.int .i64 (P : Int), .slice d.A d.n d.c, .int .i64 (Z.u : Int), .int .i64 (P : Int), .slice d.Al d.z d.cl, .int .i64 Z.T, .slice d.Ak d.zk d.ck], .int .i64 0, .int .i64 0, .int .i64 1]) ?_ rfl ?_
  rotate_left
  ·exact F8
  ·clear F8
   have t0 := y8.cs 0 _ rfl
   have t1 := y8.cs 1 _ rfl
   have t2 := y8.cs 2 _ rfl
   have t3 := y8.cs 3 _ rfl
   have t4 := y8.cs 4 _ rfl
   have t5 := y8.cs 5 _ rfl
   have t6 := y8.cs 6 _ rfl
   generalize World.setCell _ ⟨g2, 6, none⟩ _ = w8 at t0 t1 t2 t3 t4 t5 t6 ⊢
   simp [results, go_sem, t0, t1, t2, t3, t4, t5, t6]
 ·have t1 : decide (pages < 1) = false := by simpa using e1
  rcases Classical.em (pages > 1048576) with e2 | e2
  ·have t2 : decide (pages > 1048576) = true := by simpa using e2
   clear e1 e2 hn
   go_enter Tryz.func7, Tryz.ntmps7
   go_upto_region 1 with fail
   rw [show (w.alloc (.cells #[.int .i64 (P : Int), .slice d.A d.n d.c, .int .i64 (Z.u : Int), .int .i64 (P : Int), .slice d.Al d.z d.cl, .int .i64 Z.T, .slice d.Ak d.zk d.ck] 34)).alloc (.cells #[.int .i64 0, .slice none 0 0, .int .i64 0, .int .i64 0, .slice none 0 0, .int .i64 0, .slice none 0 0] 34) = w1 from hw1.symm, ← hg2, ← hg1]
   clear hw1 hg1 hg2
   have c0 := HT.out.1.cs 0 _ rfl
   have c1 := HT.out.1.cs 1 _ rfl
   have c2 := HT.out.1.cs 2 _ rfl
   have c3 := HT.out.1.cs 3 _ rfl
   have c4 := HT.out.1.cs 4 _ rfl
   have c5 := HT.out.1.cs 5 _ rfl
   have c6 := HT.out.1.cs 6 _ rfl
   have f0 := HT.out.2.1.fz 0
   have f1 := HT.out.2.1.fz 1
   have f2 := HT.out.2.1.fz 2
   have f3 := HT.out.2.1.fz 3
   have f4 := HT.out.2.1.fz 4
   have f5 := HT.out.2.1.fz 5
   have f6 := HT.out.2.1.fz 6
   have e0 := HT.out.2.1.cs 0 _ rfl
   have e1 := HT.out.2.1.cs 1 _ rfl
   have e2 := HT.out.2.1.cs 2 _ rfl
   have e3 := HT.out.2.1.cs 3 _ rfl
   have e4 := HT.out.2.1.cs 4 _ rfl
   have e5 := HT.out.2.1.cs 5 _ rfl
   have e6 := HT.out.2.1.cs 6 _ rfl
   go_wp2_with fail
   have y8 := HT.out.2.1.set7 (.int .i64 (P : Int)) (.slice d.A d.n d.c) (.int .i64 (Z.u : Int)) (.int .i64 (P : Int)) (.slice d.Al d.z d.cl) (.int .i64 Z.T) (.slice d.Ak d.zk d.ck)
   have F8 := HT.out.2.2.1.done (P := P) (g := g2) (by simp) (kept_set7 w1 g2 (.int .i64 (P : Int)) (.slice d.A d.n d.c) (.int .i64 (Z.u : Int)) (.int .i64 (P : Int)) (.slice d.Al d.z d.cl) (.int .i64 Z.T) (.slice d.Ak d.zk d.ck)) (fun v => .tuple #[v, .int .i64 0, .int .i64 0, .int .i64 1])
   refine bodyPost_ret (v := .tuple #[.agg #[.int .i64 (P : Int), .slice d.A d.n d.c, .int .i64 (Z.u : Int), .int .i64 (P : Int), .slice d.Al d.z d.cl, .int .i64 Z.T, .slice d.Ak d.zk d.ck], .int .i64 0, .int .i64 0, .int .i64 1]) ?_ rfl ?_
   rotate_left
   ·exact F8
   ·clear F8
    have t0 := y8.cs 0 _ rfl
    have t1 := y8.cs 1 _ rfl
    have t2 := y8.cs 2 _ rfl
    have t3 := y8.cs 3 _ rfl
    have t4 := y8.cs 4 _ rfl
    have t5 := y8.cs 5 _ rfl
    have t6 := y8.cs 6 _ rfl
    generalize World.setCell _ ⟨g2, 6, none⟩ _ = w8 at t0 t1 t2 t3 t4 t5 t6 ⊢
    simp [results, go_sem, t0, t1, t2, t3, t4, t5, t6]
  ·have t2 : decide (pages > 1048576) = false := by simpa using e2
   rcases Classical.em (kind < 0) with e3 | e3
   ·have t3 : decide (kind < 0) = true := by simpa using e3
    clear e1 e2 e3 hn
    go_enter Tryz.func7, Tryz.ntmps7
    go_upto_region 1 with fail
    rw [show (w.alloc (.cells #[.int .i64 (P : Int), .slice d.A d.n d.c, .int .i64 (Z.u : Int), .int .i64 (P : Int), .slice d.Al d.z d.cl, .int .i64 Z.T, .slice d.Ak d.zk d.ck] 34)).alloc (.cells #[.int .i64 0, .slice none 0 0, .int .i64 0, .int .i64 0, .slice none 0 0, .int .i64 0, .slice none 0 0] 34) = w1 from hw1.symm, ← hg2, ← hg1]
    clear hw1 hg1 hg2
    have c0 := HT.out.1.cs 0 _ rfl
    have c1 := HT.out.1.cs 1 _ rfl
    have c2 := HT.out.1.cs 2 _ rfl
    have c3 := HT.out.1.cs 3 _ rfl
    have c4 := HT.out.1.cs 4 _ rfl
    have c5 := HT.out.1.cs 5 _ rfl
    have c6 := HT.out.1.cs 6 _ rfl
    have f0 := HT.out.2.1.fz 0
    have f1 := HT.out.2.1.fz 1
    have f2 := HT.out.2.1.fz 2
    have f3 := HT.out.2.1.fz 3
    have f4 := HT.out.2.1.fz 4
    have f5 := HT.out.2.1.fz 5
    have f6 := HT.out.2.1.fz 6
    have e0 := HT.out.2.1.cs 0 _ rfl
    have e1 := HT.out.2.1.cs 1 _ rfl
    have e2 := HT.out.2.1.cs 2 _ rfl
    have e3 := HT.out.2.1.cs 3 _ rfl
    have e4 := HT.out.2.1.cs 4 _ rfl
    have e5 := HT.out.2.1.cs 5 _ rfl
    have e6 := HT.out.2.1.cs 6 _ rfl
    go_wp2_with fail
    have y8 := HT.out.2.1.set7 (.int .i64 (P : Int)) (.slice d.A d.n d.c) (.int .i64 (Z.u : Int)) (.int .i64 (P : Int)) (.slice d.Al d.z d.cl) (.int .i64 Z.T) (.slice d.Ak d.zk d.ck)
    have F8 := HT.out.2.2.1.done (P := P) (g := g2) (by simp) (kept_set7 w1 g2 (.int .i64 (P : Int)) (.slice d.A d.n d.c) (.int .i64 (Z.u : Int)) (.int .i64 (P : Int)) (.slice d.Al d.z d.cl) (.int .i64 Z.T) (.slice d.Ak d.zk d.ck)) (fun v => .tuple #[v, .int .i64 0, .int .i64 0, .int .i64 1])
    refine bodyPost_ret (v := .tuple #[.agg #[.int .i64 (P : Int), .slice d.A d.n d.c, .int .i64 (Z.u : Int), .int .i64 (P : Int), .slice d.Al d.z d.cl, .int .i64 Z.T, .slice d.Ak d.zk d.ck], .int .i64 0, .int .i64 0, .int .i64 1]) ?_ rfl ?_
    rotate_left
    ·exact F8
    ·clear F8
     have t0 := y8.cs 0 _ rfl
     have t1 := y8.cs 1 _ rfl
     have t2 := y8.cs 2 _ rfl
     have t3 := y8.cs 3 _ rfl
     have t4 := y8.cs 4 _ rfl
     have t5 := y8.cs 5 _ rfl
     have t6 := y8.cs 6 _ rfl
     generalize World.setCell _ ⟨g2, 6, none⟩ _ = w8 at t0 t1 t2 t3 t4 t5 t6 ⊢
     simp [results, go_sem, t0, t1, t2, t3, t4, t5, t6]
   ·have t3 : decide (kind < 0) = false := by simpa using e3
    have t4 : decide (kind > 255) = true := by simp; omega
    clear e1 e2 e3 hn
    go_enter Tryz.func7, Tryz.ntmps7
    go_upto_region 1 with fail
    rw [show (w.alloc (.cells #[.int .i64 (P : Int), .slice d.A d.n d.c, .int .i64 (Z.u : Int), .int .i64 (P : Int), .slice d.Al d.z d.cl, .int .i64 Z.T, .slice d.Ak d.zk d.ck] 34)).alloc (.cells #[.int .i64 0, .slice none 0 0, .int .i64 0, .int .i64 0, .slice none 0 0, .int .i64 0, .slice none 0 0] 34) = w1 from hw1.symm, ← hg2, ← hg1]
    clear hw1 hg1 hg2
    have c0 := HT.out.1.cs 0 _ rfl
    have c1 := HT.out.1.cs 1 _ rfl
    have c2 := HT.out.1.cs 2 _ rfl
    have c3 := HT.out.1.cs 3 _ rfl
    have c4 := HT.out.1.cs 4 _ rfl
    have c5 := HT.out.1.cs 5 _ rfl
    have c6 := HT.out.1.cs 6 _ rfl
    have f0 := HT.out.2.1.fz 0
    have f1 := HT.out.2.1.fz 1
    have f2 := HT.out.2.1.fz 2
    have f3 := HT.out.2.1.fz 3
    have f4 := HT.out.2.1.fz 4
    have f5 := HT.out.2.1.fz 5
    have f6 := HT.out.2.1.fz 6
    have e0 := HT.out.2.1.cs 0 _ rfl
    have e1 := HT.out.2.1.cs 1 _ rfl
    have e2 := HT.out.2.1.cs 2 _ rfl
    have e3 := HT.out.2.1.cs 3 _ rfl
    have e4 := HT.out.2.1.cs 4 _ rfl
    have e5 := HT.out.2.1.cs 5 _ rfl
    have e6 := HT.out.2.1.cs 6 _ rfl
    go_wp2_with fail
    have y8 := HT.out.2.1.set7 (.int .i64 (P : Int)) (.slice d.A d.n d.c) (.int .i64 (Z.u : Int)) (.int .i64 (P : Int)) (.slice d.Al d.z d.cl) (.int .i64 Z.T) (.slice d.Ak d.zk d.ck)
    have F8 := HT.out.2.2.1.done (P := P) (g := g2) (by simp) (kept_set7 w1 g2 (.int .i64 (P : Int)) (.slice d.A d.n d.c) (.int .i64 (Z.u : Int)) (.int .i64 (P : Int)) (.slice d.Al d.z d.cl) (.int .i64 Z.T) (.slice d.Ak d.zk d.ck)) (fun v => .tuple #[v, .int .i64 0, .int .i64 0, .int .i64 1])
    refine bodyPost_ret (v := .tuple #[.agg #[.int .i64 (P : Int), .slice d.A d.n d.c, .int .i64 (Z.u : Int), .int .i64 (P : Int), .slice d.Al d.z d.cl, .int .i64 Z.T, .slice d.Ak d.zk d.ck], .int .i64 0, .int .i64 0, .int .i64 1]) ?_ rfl ?_
    rotate_left
    ·exact F8
    ·clear F8
     have t0 := y8.cs 0 _ rfl
     have t1 := y8.cs 1 _ rfl
     have t2 := y8.cs 2 _ rfl
     have t3 := y8.cs 3 _ rfl
     have t4 := y8.cs 4 _ rfl
     have t5 := y8.cs 5 _ rfl
     have t6 := y8.cs 6 _ rfl
     generalize World.setCell _ ⟨g2, 6, none⟩ _ = w8 at t0 t1 t2 t3 t4 t5 t6 ⊢
     simp [results, go_sem, t0, t1, t2, t3, t4, t5, t6]
set_option maxHeartbeats 8000000 in
theorem rcget_good10 (h : Doc w Z d m) (hm : m ≤ 900) {G : List M.R} (hi : Inv P Z G) (hP1 : 1 ≤ P) (hP2 : P ≤ 1048576) (hF : Fit P Z.l Z.T k) (hk : k ≤ 80000) (hL : Z.l.length + (M.all Z.K).length ≤ 100) (hu : Z.u ≤ 900000000000) (pages kind : Int) (o : Nat) (h1 : 1 ≤ pages) (h2 : pages ≤ 1048576) (h3 : 0 ≤ kind) (h4 : kind ≤ 255) (ho : o < 18446744073709551616) :
  Calls Tryz.prog 7 #[dv P Z d, .int .i64 pages, .int .i64 kind, .int .u64 (o : Int)] w (DGot w P Z d (Z.get P pages kind o) (m + 1) fun v => .tuple #[v, .int .i64 (getP P Z pages), .int .i64 (getN P Z pages), .int .i64 (getF P Z pages).e]) := by
 obtain ⟨w1, hw1⟩ : ∃ w1, w1 = (w.alloc (.cells (dcs P Z d).toArray 34)).alloc (.cells d0s.toArray 34) := ⟨_, rfl⟩
 obtain ⟨g1, hg1⟩ : ∃ g, g = w.heap.size := ⟨_, rfl⟩
 obtain ⟨g2, hg2⟩ : ∃ g, g = w.heap.size + 1 := ⟨_, rfl⟩
 have HT := Lib.hid (show Bxn w1 g1 (dcs P Z d) ∧ Bxn w1 g2 d0s ∧ Fr w w1 m Z d Z d [g2, g1] ∧ g1 < g2 from by
  have b := box_two w P Z d
  rw [hw1, hg1, hg2]
  have f := ((Fr.begin h).new (.cells (dcs P Z d).toArray 34)).new (.cells d0s.toArray 34)
  rw [size1] at f
  exact ⟨b.1, b.2.1, f, by omega⟩)
 have hGP := get_pt hi h1 h2
 have hN := M.ckN_ge h1 h2
 obtain ⟨F, hFe⟩ : ∃ F, F = getF P Z pages := ⟨_, rfl⟩
 obtain ⟨n, hn⟩ : ∃ n, n = M.ckN pages := ⟨_, rfl⟩
 rw [← hFe, ← hn] at hGP
 rw [← hn] at hN
 have HF := Lib.hid (And.intro hFe hn)
 obtain ⟨c, hd⟩ : ∃ c, c = M.cls pages := ⟨_, rfl⟩
 have HD := Lib.hid hd
 have HR := Lib.hid (show F = fd P Z.l Z.K Z.T c n from by rw [hFe, hd, hn]; rfl)
 have HC : (0 ≤ c ∧ n = M.pg c) ∨ (c < 0 ∧ n = pages) := by
  rw [hd, hn]
  unfold M.ckN
  by_cases e : 0 ≤ M.cls pages
  ·rw [if_pos e]; exact .inl ⟨e, rfl⟩
  ·rw [if_neg e]; exact .inr ⟨by omega, rfl⟩
 have t1 : decide (pages < 1) = false := by simp; omega
 have t2 : decide (pages > 1048576) = false := by simp; omega
 have t3 : decide (kind < 0) = false := by simp; omega
 have t4 : decide (kind > 255) = false := by simp; omega
 have HG := Lib.hid (show (F.e = 0 → 0 ≤ F.p ∧ F.p < P) ∧ (F.e = 0 ∨ F.e = 4) from by
  rcases hGP.2 with ⟨he, hp⟩ | ⟨he, _⟩
  ·have := hp.inn (r := (⟨F.p, n⟩ : M.R)) (List.mem_cons.2 (.inl rfl))
   exact ⟨fun _ => by simp only at this; omega, .inl he⟩
  ·exact ⟨fun e => by omega, .inr he⟩)
 have HA := Lib.hid (And.intro hm (And.intro hP1 (And.intro hP2 (And.intro hu (And.intro hN (And.intro h3 (And.intro h4 ho)))))))
 have POP := Lib.hid (fun W hW => rpop10 (w := W) (d := d) (m := m) hW hi.good c)
 have HM1 := Lib.hid h1
 have HGD := Lib.hid hi.good
 have TAKE := Lib.hid (fun W dd hW => rctake10 (w := W) (d := dd) (m := m) hW hP1 hP2 hi.good hF hk hL (fun r hr => hi.pt.inn (List.mem_append.2 (.inl hr))) n)
 have HGE := Lib.hid (show Z.get P pages kind o = (if F.e = 0 then ⟨F.l, F.T, F.K, Z.u + 1, M.wr Z.f (F.p.toNat * 4096) (M.hd n.toNat kind.toNat o 0)⟩ else Z.of F) ∧ getP P Z pages = (if F.e = 0 then F.p else 0) ∧ getN P Z pages = (if F.e = 0 then n else 0) ∧ (getF P Z pages).e = F.e from by rw [hFe, hn]; exact ⟨rfl, rfl, rfl, rfl⟩)
 clear h hm hi hF hk hL hu hFe hn hd h1 h2 h3 h4 ho hN hGP hP1 hP2
 go_enter Tryz.func7, Tryz.ntmps7
 go_upto_region 1 with fail
 rw [show (w.alloc (.cells #[.int .i64 (P : Int), .slice d.A d.n d.c, .int .i64 (Z.u : Int), .int .i64 (P : Int), .slice d.Al d.z d.cl, .int .i64 Z.T, .slice d.Ak d.zk d.ck] 34)).alloc (.cells #[.int .i64 0, .slice none 0 0, .int .i64 0, .int .i64 0, .slice none 0 0, .int .i64 0, .slice none 0 0] 34) = w1 from hw1.symm, ← hg2, ← hg1]
 clear hw1 hg1 hg2
 go_wp2_with fail
 refine (rclass_at pages c rfl HD.out.symm w1).mono ?_
 rintro e w2 ⟨rfl, rfl⟩
 have c6 := HT.out.1.cs 6 _ rfl
 rcases HC with ⟨hd, hn⟩ | ⟨hd, hn⟩
 ·have HNN := Lib.hid hn
  clear hn
  go_wp2_with fail
  refine (rcpages_at c n rfl HNN.out.symm w1).mono ?_
  rintro e w2 ⟨rfl, rfl⟩
  go_wp2_with fail
  refine (POP.out w1 HT.out.2.2.1.dc).mono ?_
  rintro e w2 ⟨A2, k2, c2, kl2, rfl, b2, D2, mv2⟩
  have fB := HT.out.2.2.1.to D2 b2 mv2
  have y1 := HT.out.1.below (by simp) b2
  have y2 := HT.out.2.1.below (by simp) b2
  have HY0 := Lib.hid (show Bxn w2 g1 (dcs P Z d) ∧ Bxn w2 g2 d0s ∧ Fr w w2 m Z d { Z with K := M.popF Z.K c } { d with Ak := A2, zk := k2, ck := c2, kl := kl2 } [g2, g1] ∧ g1 < g2 from ⟨y1, y2, fB, HT.out.2.2.2⟩)
  have z6 := y1.fz 6
  have u6 := y1.cs 6 _ rfl
  clear fB y1 y2 HT b2 D2 mv2 c6
  rcases Bool.eq_false_or_eq_true (M.popB Z.K c) with hp | hp
  ·have HW := Lib.hid (show F = ⟨M.popV Z.K c, 0, Z.l, M.popF Z.K c, Z.T⟩ from by rw [HR.out, fd_yes hp])
   rw [hp]
   clear hp
   go_upto_region 9 with fail
   have k3 := kept_set1 (Kept.refl w2 (fun b => b = g1)) 6 (.slice A2 k2 c2)
   have y1b := set1_at6 HY0.out.1 (.slice A2 k2 c2)
   have y2b := HY0.out.2.1.kept (by simp) k3 (fun e => by have := HY0.out.2.2.2; omega)
   have fC := HY0.out.2.2.1.set (g := g1) (by simp) k3
   have h12 := HY0.out.2.2.2
   generalize w2.setCell ⟨g1, 6, none⟩ (.slice A2 k2 c2) = w3 at *
   obtain ⟨d1, hd1⟩ : ∃ x : Dc, x = { d with Ak := A2, zk := k2, ck := c2, kl := kl2 } := ⟨_, rfl⟩
   rw [← hd1] at fC
   have HY := Lib.hid (show Bxn w3 g1 (dcs P { Z with K := M.popF Z.K c } d1) ∧ Bxn w3 g2 d0s ∧ Fr w w3 m Z d { Z with K := M.popF Z.K c } d1 [g2, g1] ∧ g1 < g2 from ⟨by rw [hd1]; exact y1b, y2b, fC, h12⟩)
   clear y1b y2b fC h12 hd1 k3 HY0 z6 u6
   have HX := Lib.hid (show 0 ≤ (M.popV Z.K c) ∧ (M.popV Z.K c) < P from by have := HG.out.1; rw [HW.out] at this; exact this rfl)
   have c0 := HY.out.1.cs 0 _ rfl
   have c1 := HY.out.1.cs 1 _ rfl
   have c2 := HY.out.1.cs 2 _ rfl
   go_wp2_with fail
   refine (rwrite10 HY.out.2.2.1.dc HA.out.1 HA.out.2.2.1 HA.out.2.2.2.1 (M.popV Z.K c) n kind o HA.out.2.2.2.2.2.2.2 HX.out.1 HX.out.2 (by have := HA.out.2.2.2.2.1; have := HM1.out; omega) (by have := HA.out.2.2.2.2.1; omega) HA.out.2.2.2.2.2.1 HA.out.2.2.2.2.2.2.1).mono ?_
   rintro e w4 ⟨A4, nn4, cc4, lg4, rfl, b4, D4, mv4⟩
   clear c0 c1 c2
   have bx := Bxn.new w4 28 [.int .i64 (P : Int), .slice A4 nn4 cc4, .int .i64 ((Z.u : Int) + 1)]
   have b5 := (Below.refl w4.heap.size w4).alloc (Nat.le_refl _) (.cells [.int .i64 (P : Int), .slice A4 nn4 cc4, .int .i64 ((Z.u : Int) + 1)].toArray 28)
   have ff5 := (HY.out.2.2.1.to D4 b4 mv4).new (.cells [.int .i64 (P : Int), .slice A4 nn4 cc4, .int .i64 ((Z.u : Int) + 1)].toArray 28)
   have y1 := (HY.out.1.below (by simp) b4).below (by simp) b5
   have y2 := (HY.out.2.1.below (by simp) b4).below (by simp) b5
   have HY2 := Lib.hid (And.intro bx (And.intro ff5 (And.intro y1 y2)))
   clear bx ff5 y1 y2 b4 b5 D4 mv4
   have h12 := HY.out.2.2.2
   go_upto_region 16 with fail
   obtain ⟨w5, hw5⟩ : ∃ w5, w5 = w4.alloc (.cells [.int .i64 (P : Int), .slice A4 nn4 cc4, .int .i64 ((Z.u : Int) + 1)].toArray 28) := ⟨_, rfl⟩
   obtain ⟨g6, hg6⟩ : ∃ g, g = w4.heap.size := ⟨_, rfl⟩
   rw [show w4.alloc (.cells #[.int .i64 (P : Int), .slice A4 nn4 cc4, .int .i64 ((Z.u : Int) + 1)] 28) = w5 from hw5.symm, ← hg6]
   have HZ := Lib.hid (show Bxn w5 g6 [.int .i64 (P : Int), .slice A4 nn4 cc4, .int .i64 ((Z.u : Int) + 1)] ∧ Fr w w5 (m + 1) Z d ({ ({ Z with K := M.popF Z.K c } : St) with u := Z.u + 1, f := M.wr Z.f (((M.popV Z.K c)).toNat * 4096) (M.hd n.toNat kind.toNat o 0) } : St) ({ d1 with A := A4, n := nn4, c := cc4, lg := lg4 } : Dc) [g6, g2, g1] ∧ Bxn w5 g1 (dcs P ({ Z with K := M.popF Z.K c } : St) d1) ∧ Bxn w5 g2 d0s from by rw [hw5, hg6]; exact HY2.out)
   clear hw5 hg6 HY2 HY
   have u0 := HZ.out.1.cs 0 _ rfl
   have u1 := HZ.out.1.cs 1 _ rfl
   have u2 := HZ.out.1.cs 2 _ rfl
   have z0 := HZ.out.2.2.1.fz 0
   have z1 := HZ.out.2.2.1.fz 1
   have z2 := HZ.out.2.2.1.fz 2
   have c0 := HZ.out.2.2.1.cs 0 _ rfl
   have c1 := HZ.out.2.2.1.cs 1 _ rfl
   have c2 := HZ.out.2.2.1.cs 2 _ rfl
   go_upto_region 17 with fail
   have k7 := set3_kept w5 g1 0 1 2 (.int .i64 (P : Int)) (.slice A4 nn4 cc4) (.int .i64 ((Z.u : Int) + 1))
   have y7 := set3_at0 HZ.out.2.2.1 (.int .i64 (P : Int)) (.slice A4 nn4 cc4) (.int .i64 ((Z.u : Int) + 1))
   have F7 := HZ.out.2.1.set (g := g1) (by simp) k7
   have x7 := HZ.out.2.2.2.kept (by simp) k7 (fun e => by omega)
   generalize ((World.setCell _ ⟨g1, 0, none⟩ (.int .i64 (P : Int))).setCell ⟨g1, 1, none⟩ (.slice A4 nn4 cc4)).setCell ⟨g1, 2, none⟩ (.int .i64 ((Z.u : Int) + 1)) = w7 at *
   clear k7 u0 u1 u2 z0 z1 z2 c0 c1 c2
   have c0 := y7.cs 0 _ rfl
   have c1 := y7.cs 1 _ rfl
   have c2 := y7.cs 2 _ rfl
   have c3 := y7.cs 3 _ rfl
   have c4 := y7.cs 4 _ rfl
   have c5 := y7.cs 5 _ rfl
   have c6 := y7.cs 6 _ rfl
   have f0 := x7.fz 0
   have f1 := x7.fz 1
   have f2 := x7.fz 2
   have f3 := x7.fz 3
   have f4 := x7.fz 4
   have f5 := x7.fz 5
   have f6 := x7.fz 6
   have e0 := x7.cs 0 _ rfl
   have e1 := x7.cs 1 _ rfl
   have e2 := x7.cs 2 _ rfl
   have e3 := x7.cs 3 _ rfl
   have e4 := x7.cs 4 _ rfl
   have e5 := x7.cs 5 _ rfl
   have e6 := x7.cs 6 _ rfl
   have H7 := Lib.hid (And.intro F7 x7)
   clear F7 x7 y7 HZ h12
   go_wp2_with fail
   rw [HGE.out.1, HGE.out.2.1, HGE.out.2.2.1, HGE.out.2.2.2, HW.out]
   have y8 := H7.out.2.set7 (.int .i64 (P : Int)) (.slice A4 nn4 cc4) (.int .i64 ((Z.u : Int) + 1)) (.int .i64 (P : Int)) (.slice d1.Al d1.z d1.cl) (.int .i64 Z.T) (.slice d1.Ak d1.zk d1.ck)
   have F8 := H7.out.1.done (P := P) (g := g2) (by simp) (kept_set7 w7 g2 (.int .i64 (P : Int)) (.slice A4 nn4 cc4) (.int .i64 ((Z.u : Int) + 1)) (.int .i64 (P : Int)) (.slice d1.Al d1.z d1.cl) (.int .i64 Z.T) (.slice d1.Ak d1.zk d1.ck)) (fun v => .tuple #[v, .int .i64 (M.popV Z.K c), .int .i64 n, .int .i64 0])
   refine bodyPost_ret (v := .tuple #[.agg #[.int .i64 (P : Int), .slice A4 nn4 cc4, .int .i64 ((Z.u : Int) + 1), .int .i64 (P : Int), .slice d1.Al d1.z d1.cl, .int .i64 Z.T, .slice d1.Ak d1.zk d1.ck], .int .i64 (M.popV Z.K c), .int .i64 n, .int .i64 0]) ?_ rfl ?_
   rotate_left
   ·exact F8
   ·clear F8
    have t0 := y8.cs 0 _ rfl
    have t1 := y8.cs 1 _ rfl
    have t2 := y8.cs 2 _ rfl
    have t3 := y8.cs 3 _ rfl
    have t4 := y8.cs 4 _ rfl
    have t5 := y8.cs 5 _ rfl
    have t6 := y8.cs 6 _ rfl
    generalize World.setCell _ ⟨g2, 6, none⟩ _ = w8 at t0 t1 t2 t3 t4 t5 t6 ⊢
    simp [results, go_sem, t0, t1, t2, t3, t4, t5, t6]
  ·have HW := Lib.hid (show F = tw P Z.l Z.K Z.T n from by rw [HR.out, fd_no hp])
   have hZ : ({ Z with K := M.popF Z.K c } : St) = Z := by rw [M.popF_no _ _ hp]
   rw [hp]
   clear hp
   go_upto_region 9 with fail
   have k3 := kept_set1 (Kept.refl w2 (fun b => b = g1)) 6 (.slice A2 k2 c2)
   have y1b := set1_at6 HY0.out.1 (.slice A2 k2 c2)
   have y2b := HY0.out.2.1.kept (by simp) k3 (fun e => by have := HY0.out.2.2.2; omega)
   have fC := HY0.out.2.2.1.set (g := g1) (by simp) k3
   have h12 := HY0.out.2.2.2
   generalize w2.setCell ⟨g1, 6, none⟩ (.slice A2 k2 c2) = w3 at *
   obtain ⟨d1, hd1⟩ : ∃ x : Dc, x = { d with Ak := A2, zk := k2, ck := c2, kl := kl2 } := ⟨_, rfl⟩
   rw [← hd1] at fC
   have HY := Lib.hid (show Bxn w3 g1 (dcs P { Z with K := M.popF Z.K c } d1) ∧ Bxn w3 g2 d0s ∧ Fr w w3 m Z d { Z with K := M.popF Z.K c } d1 [g2, g1] ∧ g1 < g2 from ⟨by rw [hd1]; exact y1b, y2b, fC, h12⟩)
   clear y1b y2b fC h12 hd1 k3 HY0 z6 u6
   rw [hZ] at HY
   clear hZ
   have c0 := HY.out.1.cs 0 _ rfl
   have c1 := HY.out.1.cs 1 _ rfl
   have c2 := HY.out.1.cs 2 _ rfl
   have c3 := HY.out.1.cs 3 _ rfl
   have c4 := HY.out.1.cs 4 _ rfl
   have c5 := HY.out.1.cs 5 _ rfl
   have c6 := HY.out.1.cs 6 _ rfl
   have TK := TAKE.out w3 d1 HY.out.2.2.1.dc
   rw [← HW.out] at TK
   go_wp2_with fail
   refine TK.mono ?_
   rintro e w4 ⟨d2, rfl, D4, b4, mv4⟩
   clear c0 c1 c2 c3 c4 c5 c6 TK
   have bx := Bxn.new w4 34 (dcs P (Z.of F) d2)
   have b5 := (Below.refl w4.heap.size w4).alloc (Nat.le_refl _) (.cells (dcs P (Z.of F) d2).toArray 34)
   have ff5 := (HY.out.2.2.1.to D4 b4 mv4).new (.cells (dcs P (Z.of F) d2).toArray 34)
   have y1 := (HY.out.1.below (by simp) b4).below (by simp) b5
   have y2 := (HY.out.2.1.below (by simp) b4).below (by simp) b5
   have h12 := HY.out.2.2.2
   have l1 := HY.out.1.lt (by simp)
   have l4 := b4.size
   have HQ := Lib.hid (And.intro bx (And.intro ff5 (And.intro y1 y2)))
   clear bx ff5 y1 y2 b4 b5 D4 mv4 HY
   go_upto_region 11 with fail
   obtain ⟨v5, hv5⟩ : ∃ v5, v5 = w4.alloc (.cells (dcs P (Z.of F) d2).toArray 34) := ⟨_, rfl⟩
   obtain ⟨g5, hg5⟩ : ∃ g, g = w4.heap.size := ⟨_, rfl⟩
   rw [show w4.alloc (.cells #[.int .i64 (P : Int), .slice d2.A d2.n d2.c, .int .i64 ((Z.of F).u : Int), .int .i64 (P : Int), .slice d2.Al d2.z d2.cl, .int .i64 (Z.of F).T, .slice d2.Ak d2.zk d2.ck] 34) = v5 from hv5.symm, ← hg5]
   have HQ2 := Lib.hid (show Bxn v5 g5 (dcs P (Z.of F) d2) ∧ Fr w v5 m Z d (Z.of F) d2 [g5, g2, g1] ∧ Bxn v5 g1 (dcs P Z d1) ∧ Bxn v5 g2 d0s from by rw [hv5, hg5]; exact HQ.out)
   clear hv5 hg5 HQ l1 l4
   have x0 := HQ2.out.1.cs 0 _ rfl
   have x1 := HQ2.out.1.cs 1 _ rfl
   have x2 := HQ2.out.1.cs 2 _ rfl
   have x3 := HQ2.out.1.cs 3 _ rfl
   have x4 := HQ2.out.1.cs 4 _ rfl
   have x5 := HQ2.out.1.cs 5 _ rfl
   have x6 := HQ2.out.1.cs 6 _ rfl
   rcases HG.out.2 with he | he
   ·have HE := Lib.hid he
    rw [he]
    clear he
    have f0 := HQ2.out.2.2.1.fz 0
    have f1 := HQ2.out.2.2.1.fz 1
    have f2 := HQ2.out.2.2.1.fz 2
    have f3 := HQ2.out.2.2.1.fz 3
    have f4 := HQ2.out.2.2.1.fz 4
    have f5 := HQ2.out.2.2.1.fz 5
    have f6 := HQ2.out.2.2.1.fz 6
    have e0 := HQ2.out.2.2.1.cs 0 _ rfl
    have e1 := HQ2.out.2.2.1.cs 1 _ rfl
    have e2 := HQ2.out.2.2.1.cs 2 _ rfl
    have e3 := HQ2.out.2.2.1.cs 3 _ rfl
    have e4 := HQ2.out.2.2.1.cs 4 _ rfl
    have e5 := HQ2.out.2.2.1.cs 5 _ rfl
    have e6 := HQ2.out.2.2.1.cs 6 _ rfl
    go_upto_region 15 with fail
    have k6 := kept_set7 v5 g1 (.int .i64 (P : Int)) (.slice d2.A d2.n d2.c) (.int .i64 ((Z.of F).u : Int)) (.int .i64 (P : Int)) (.slice d2.Al d2.z d2.cl) (.int .i64 (Z.of F).T) (.slice d2.Ak d2.zk d2.ck)
    have y1 := HQ2.out.2.2.1.set7 (.int .i64 (P : Int)) (.slice d2.A d2.n d2.c) (.int .i64 ((Z.of F).u : Int)) (.int .i64 (P : Int)) (.slice d2.Al d2.z d2.cl) (.int .i64 (Z.of F).T) (.slice d2.Ak d2.zk d2.ck)
    have y2 := HQ2.out.2.2.2.kept (by simp) k6 (fun e => by omega)
    have F6 := HQ2.out.2.1.set (g := g1) (by simp) k6
    generalize World.setCell _ ⟨g1, 6, none⟩ (.slice d2.Ak d2.zk d2.ck) = v6 at *
    have HY := Lib.hid (show Bxn v6 g1 (dcs P (Z.of F) d2) ∧ Bxn v6 g2 d0s ∧ Fr w v6 m Z d (Z.of F) d2 [g5, g2, g1] ∧ g1 < g2 from ⟨y1, y2, F6, h12⟩)
    clear y1 y2 F6 k6 HQ2 h12 x0 x1 x2 x3 x4 x5 x6 f0 f1 f2 f3 f4 f5 f6 e0 e1 e2 e3 e4 e5 e6
    have HX := Lib.hid (show 0 ≤ F.p ∧ F.p < P from HG.out.1 HE.out)
    have c0 := HY.out.1.cs 0 _ rfl
    have c1 := HY.out.1.cs 1 _ rfl
    have c2 := HY.out.1.cs 2 _ rfl
    go_wp2_with fail
    refine (rwrite10 HY.out.2.2.1.dc HA.out.1 HA.out.2.2.1 HA.out.2.2.2.1 F.p n kind o HA.out.2.2.2.2.2.2.2 HX.out.1 HX.out.2 (by have := HA.out.2.2.2.2.1; have := HM1.out; omega) (by have := HA.out.2.2.2.2.1; omega) HA.out.2.2.2.2.2.1 HA.out.2.2.2.2.2.2.1).mono ?_
    rintro e w4 ⟨A4, nn4, cc4, lg4, rfl, b4, D4, mv4⟩
    clear c0 c1 c2
    have bx := Bxn.new w4 28 [.int .i64 (P : Int), .slice A4 nn4 cc4, .int .i64 (((Z.of F).u : Int) + 1)]
    have b5 := (Below.refl w4.heap.size w4).alloc (Nat.le_refl _) (.cells [.int .i64 (P : Int), .slice A4 nn4 cc4, .int .i64 (((Z.of F).u : Int) + 1)].toArray 28)
    have ff5 := (HY.out.2.2.1.to D4 b4 mv4).new (.cells [.int .i64 (P : Int), .slice A4 nn4 cc4, .int .i64 (((Z.of F).u : Int) + 1)].toArray 28)
    have y1 := (HY.out.1.below (by simp) b4).below (by simp) b5
    have y2 := (HY.out.2.1.below (by simp) b4).below (by simp) b5
    have HY2 := Lib.hid (And.intro bx (And.intro ff5 (And.intro y1 y2)))
    clear bx ff5 y1 y2 b4 b5 D4 mv4
    have h12 := HY.out.2.2.2
    go_upto_region 16 with fail
    obtain ⟨w5, hw5⟩ : ∃ w5, w5 = w4.alloc (.cells [.int .i64 (P : Int), .slice A4 nn4 cc4, .int .i64 (((Z.of F).u : Int) + 1)].toArray 28) := ⟨_, rfl⟩
    obtain ⟨g6, hg6⟩ : ∃ g, g = w4.heap.size := ⟨_, rfl⟩
    rw [show w4.alloc (.cells #[.int .i64 (P : Int), .slice A4 nn4 cc4, .int .i64 (((Z.of F).u : Int) + 1)] 28) = w5 from hw5.symm, ← hg6]
    have HZ := Lib.hid (show Bxn w5 g6 [.int .i64 (P : Int), .slice A4 nn4 cc4, .int .i64 (((Z.of F).u : Int) + 1)] ∧ Fr w w5 (m + 1) Z d ({ (Z.of F) with u := (Z.of F).u + 1, f := M.wr Z.f ((F.p).toNat * 4096) (M.hd n.toNat kind.toNat o 0) } : St) ({ d2 with A := A4, n := nn4, c := cc4, lg := lg4 } : Dc) [g6, g5, g2, g1] ∧ Bxn w5 g1 (dcs P (Z.of F) d2) ∧ Bxn w5 g2 d0s from by rw [hw5, hg6]; exact HY2.out)
    clear hw5 hg6 HY2 HY
    have u0 := HZ.out.1.cs 0 _ rfl
    have u1 := HZ.out.1.cs 1 _ rfl
    have u2 := HZ.out.1.cs 2 _ rfl
    have z0 := HZ.out.2.2.1.fz 0
    have z1 := HZ.out.2.2.1.fz 1
    have z2 := HZ.out.2.2.1.fz 2
    have c0 := HZ.out.2.2.1.cs 0 _ rfl
    have c1 := HZ.out.2.2.1.cs 1 _ rfl
    have c2 := HZ.out.2.2.1.cs 2 _ rfl
    go_upto_region 17 with fail
    have k7 := set3_kept w5 g1 0 1 2 (.int .i64 (P : Int)) (.slice A4 nn4 cc4) (.int .i64 (((Z.of F).u : Int) + 1))
    have y7 := set3_at0 HZ.out.2.2.1 (.int .i64 (P : Int)) (.slice A4 nn4 cc4) (.int .i64 (((Z.of F).u : Int) + 1))
    have F7 := HZ.out.2.1.set (g := g1) (by simp) k7
    have x7 := HZ.out.2.2.2.kept (by simp) k7 (fun e => by omega)
    generalize ((World.setCell _ ⟨g1, 0, none⟩ (.int .i64 (P : Int))).setCell ⟨g1, 1, none⟩ (.slice A4 nn4 cc4)).setCell ⟨g1, 2, none⟩ (.int .i64 (((Z.of F).u : Int) + 1)) = w7 at *
    clear k7 u0 u1 u2 z0 z1 z2 c0 c1 c2
    have c0 := y7.cs 0 _ rfl
    have c1 := y7.cs 1 _ rfl
    have c2 := y7.cs 2 _ rfl
    have c3 := y7.cs 3 _ rfl
    have c4 := y7.cs 4 _ rfl
    have c5 := y7.cs 5 _ rfl
    have c6 := y7.cs 6 _ rfl
    have f0 := x7.fz 0
    have f1 := x7.fz 1
    have f2 := x7.fz 2
    have f3 := x7.fz 3
    have f4 := x7.fz 4
    have f5 := x7.fz 5
    have f6 := x7.fz 6
    have e0 := x7.cs 0 _ rfl
    have e1 := x7.cs 1 _ rfl
    have e2 := x7.cs 2 _ rfl
    have e3 := x7.cs 3 _ rfl
    have e4 := x7.cs 4 _ rfl
    have e5 := x7.cs 5 _ rfl
    have e6 := x7.cs 6 _ rfl
    have H7 := Lib.hid (And.intro F7 x7)
    clear F7 x7 y7 HZ h12
    go_wp2_with fail
    rw [HGE.out.1, HGE.out.2.1, HGE.out.2.2.1, HGE.out.2.2.2, if_pos HE.out, if_pos HE.out, if_pos HE.out, HE.out]
    have y8 := H7.out.2.set7 (.int .i64 (P : Int)) (.slice A4 nn4 cc4) (.int .i64 (((Z.of F).u : Int) + 1)) (.int .i64 (P : Int)) (.slice d2.Al d2.z d2.cl) (.int .i64 (Z.of F).T) (.slice d2.Ak d2.zk d2.ck)
    have F8 := H7.out.1.done (P := P) (g := g2) (by simp) (kept_set7 w7 g2 (.int .i64 (P : Int)) (.slice A4 nn4 cc4) (.int .i64 (((Z.of F).u : Int) + 1)) (.int .i64 (P : Int)) (.slice d2.Al d2.z d2.cl) (.int .i64 (Z.of F).T) (.slice d2.Ak d2.zk d2.ck)) (fun v => .tuple #[v, .int .i64 F.p, .int .i64 n, .int .i64 0])
    refine bodyPost_ret (v := .tuple #[.agg #[.int .i64 (P : Int), .slice A4 nn4 cc4, .int .i64 (((Z.of F).u : Int) + 1), .int .i64 (P : Int), .slice d2.Al d2.z d2.cl, .int .i64 (Z.of F).T, .slice d2.Ak d2.zk d2.ck], .int .i64 F.p, .int .i64 n, .int .i64 0]) ?_ rfl ?_
    rotate_left
    ·exact F8
    ·clear F8
     have t0 := y8.cs 0 _ rfl
     have t1 := y8.cs 1 _ rfl
     have t2 := y8.cs 2 _ rfl
     have t3 := y8.cs 3 _ rfl
     have t4 := y8.cs 4 _ rfl
     have t5 := y8.cs 5 _ rfl
     have t6 := y8.cs 6 _ rfl
     generalize World.setCell _ ⟨g2, 6, none⟩ _ = w8 at t0 t1 t2 t3 t4 t5 t6 ⊢
     simp [results, go_sem, t0, t1, t2, t3, t4, t5, t6]
   ·have HE := Lib.hid he
    rw [he]
    clear he
    have f0 := HQ2.out.2.2.2.fz 0
    have f1 := HQ2.out.2.2.2.fz 1
    have f2 := HQ2.out.2.2.2.fz 2
    have f3 := HQ2.out.2.2.2.fz 3
    have f4 := HQ2.out.2.2.2.fz 4
    have f5 := HQ2.out.2.2.2.fz 5
    have f6 := HQ2.out.2.2.2.fz 6
    have e0 := HQ2.out.2.2.2.cs 0 _ rfl
    have e1 := HQ2.out.2.2.2.cs 1 _ rfl
    have e2 := HQ2.out.2.2.2.cs 2 _ rfl
    have e3 := HQ2.out.2.2.2.cs 3 _ rfl
    have e4 := HQ2.out.2.2.2.cs 4 _ rfl
    have e5 := HQ2.out.2.2.2.cs 5 _ rfl
    have e6 := HQ2.out.2.2.2.cs 6 _ rfl
    go_wp2_with fail
    rw [HGE.out.1, HGE.out.2.1, HGE.out.2.2.1, HGE.out.2.2.2, if_neg (by rw [HE.out]; decide), if_neg (by rw [HE.out]; decide), if_neg (by rw [HE.out]; decide), HE.out]
    have y8 := HQ2.out.2.2.2.set7 (.int .i64 (P : Int)) (.slice d2.A d2.n d2.c) (.int .i64 (Z.of F).u) (.int .i64 (P : Int)) (.slice d2.Al d2.z d2.cl) (.int .i64 (Z.of F).T) (.slice d2.Ak d2.zk d2.ck)
    have F8 := (HQ2.out.2.1.more (Nat.le_succ m)).done (P := P) (g := g2) (by simp) (kept_set7 v5 g2 (.int .i64 (P : Int)) (.slice d2.A d2.n d2.c) (.int .i64 (Z.of F).u) (.int .i64 (P : Int)) (.slice d2.Al d2.z d2.cl) (.int .i64 (Z.of F).T) (.slice d2.Ak d2.zk d2.ck)) (fun v => .tuple #[v, .int .i64 0, .int .i64 0, .int .i64 4])
    refine bodyPost_ret (v := .tuple #[.agg #[.int .i64 (P : Int), .slice d2.A d2.n d2.c, .int .i64 (Z.of F).u, .int .i64 (P : Int), .slice d2.Al d2.z d2.cl, .int .i64 (Z.of F).T, .slice d2.Ak d2.zk d2.ck], .int .i64 0, .int .i64 0, .int .i64 4]) ?_ rfl ?_
    rotate_left
    ·exact F8
    ·clear F8
     have t0 := y8.cs 0 _ rfl
     have t1 := y8.cs 1 _ rfl
     have t2 := y8.cs 2 _ rfl
     have t3 := y8.cs 3 _ rfl
     have t4 := y8.cs 4 _ rfl
     have t5 := y8.cs 5 _ rfl
     have t6 := y8.cs 6 _ rfl
     generalize World.setCell _ ⟨g2, 6, none⟩ _ = w8 at t0 t1 t2 t3 t4 t5 t6 ⊢
     simp [results, go_sem, t0, t1, t2, t3, t4, t5, t6]
 ·subst hn
  go_wp2_with fail
  refine (POP.out w1 HT.out.2.2.1.dc).mono ?_
  rintro e w2 ⟨A2, k2, c2, kl2, rfl, b2, D2, mv2⟩
  have hp : M.popB Z.K c = false := by
   unfold M.popB
   rw [HGD.out.out c (.inl hd)]
   rfl
  have HW := Lib.hid (show F = tw P Z.l Z.K Z.T n from by rw [HR.out, fd_no hp])
  have hZ : ({ Z with K := M.popF Z.K c } : St) = Z := by rw [M.popF_no _ _ hp]
  rw [hp]
  clear hp
  have fB := HT.out.2.2.1.to D2 b2 mv2
  have y1 := HT.out.1.below (by simp) b2
  have y2 := HT.out.2.1.below (by simp) b2
  have HY0 := Lib.hid (show Bxn w2 g1 (dcs P Z d) ∧ Bxn w2 g2 d0s ∧ Fr w w2 m Z d { Z with K := M.popF Z.K c } { d with Ak := A2, zk := k2, ck := c2, kl := kl2 } [g2, g1] ∧ g1 < g2 from ⟨y1, y2, fB, HT.out.2.2.2⟩)
  have z6 := y1.fz 6
  have u6 := y1.cs 6 _ rfl
  clear fB y1 y2 HT b2 D2 mv2 c6
  go_upto_region 9 with fail
  have k3 := kept_set1 (Kept.refl w2 (fun b => b = g1)) 6 (.slice A2 k2 c2)
  have y1b := set1_at6 HY0.out.1 (.slice A2 k2 c2)
  have y2b := HY0.out.2.1.kept (by simp) k3 (fun e => by have := HY0.out.2.2.2; omega)
  have fC := HY0.out.2.2.1.set (g := g1) (by simp) k3
  have h12 := HY0.out.2.2.2
  generalize w2.setCell ⟨g1, 6, none⟩ (.slice A2 k2 c2) = w3 at *
  obtain ⟨d1, hd1⟩ : ∃ x : Dc, x = { d with Ak := A2, zk := k2, ck := c2, kl := kl2 } := ⟨_, rfl⟩
  rw [← hd1] at fC
  have HY := Lib.hid (show Bxn w3 g1 (dcs P { Z with K := M.popF Z.K c } d1) ∧ Bxn w3 g2 d0s ∧ Fr w w3 m Z d { Z with K := M.popF Z.K c } d1 [g2, g1] ∧ g1 < g2 from ⟨by rw [hd1]; exact y1b, y2b, fC, h12⟩)
  clear y1b y2b fC h12 hd1 k3 HY0 z6 u6
  rw [hZ] at HY
  clear hZ
  have c0 := HY.out.1.cs 0 _ rfl
  have c1 := HY.out.1.cs 1 _ rfl
  have c2 := HY.out.1.cs 2 _ rfl
  have c3 := HY.out.1.cs 3 _ rfl
  have c4 := HY.out.1.cs 4 _ rfl
  have c5 := HY.out.1.cs 5 _ rfl
  have c6 := HY.out.1.cs 6 _ rfl
  have TK := TAKE.out w3 d1 HY.out.2.2.1.dc
  rw [← HW.out] at TK
  go_wp2_with fail
  refine TK.mono ?_
  rintro e w4 ⟨d2, rfl, D4, b4, mv4⟩
  clear c0 c1 c2 c3 c4 c5 c6 TK
  have bx := Bxn.new w4 34 (dcs P (Z.of F) d2)
  have b5 := (Below.refl w4.heap.size w4).alloc (Nat.le_refl _) (.cells (dcs P (Z.of F) d2).toArray 34)
  have ff5 := (HY.out.2.2.1.to D4 b4 mv4).new (.cells (dcs P (Z.of F) d2).toArray 34)
  have y1 := (HY.out.1.below (by simp) b4).below (by simp) b5
  have y2 := (HY.out.2.1.below (by simp) b4).below (by simp) b5
  have h12 := HY.out.2.2.2
  have l1 := HY.out.1.lt (by simp)
  have l4 := b4.size
  have HQ := Lib.hid (And.intro bx (And.intro ff5 (And.intro y1 y2)))
  clear bx ff5 y1 y2 b4 b5 D4 mv4 HY
  go_upto_region 11 with fail
  obtain ⟨v5, hv5⟩ : ∃ v5, v5 = w4.alloc (.cells (dcs P (Z.of F) d2).toArray 34) := ⟨_, rfl⟩
  obtain ⟨g5, hg5⟩ : ∃ g, g = w4.heap.size := ⟨_, rfl⟩
  rw [show w4.alloc (.cells #[.int .i64 (P : Int), .slice d2.A d2.n d2.c, .int .i64 ((Z.of F).u : Int), .int .i64 (P : Int), .slice d2.Al d2.z d2.cl, .int .i64 (Z.of F).T, .slice d2.Ak d2.zk d2.ck] 34) = v5 from hv5.symm, ← hg5]
  have HQ2 := Lib.hid (show Bxn v5 g5 (dcs P (Z.of F) d2) ∧ Fr w v5 m Z d (Z.of F) d2 [g5, g2, g1] ∧ Bxn v5 g1 (dcs P Z d1) ∧ Bxn v5 g2 d0s from by rw [hv5, hg5]; exact HQ.out)
  clear hv5 hg5 HQ l1 l4
  have x0 := HQ2.out.1.cs 0 _ rfl
  have x1 := HQ2.out.1.cs 1 _ rfl
  have x2 := HQ2.out.1.cs 2 _ rfl
  have x3 := HQ2.out.1.cs 3 _ rfl
  have x4 := HQ2.out.1.cs 4 _ rfl
  have x5 := HQ2.out.1.cs 5 _ rfl
  have x6 := HQ2.out.1.cs 6 _ rfl
  rcases HG.out.2 with he | he
  ·have HE := Lib.hid he
   rw [he]
   clear he
   have f0 := HQ2.out.2.2.1.fz 0
   have f1 := HQ2.out.2.2.1.fz 1
   have f2 := HQ2.out.2.2.1.fz 2
   have f3 := HQ2.out.2.2.1.fz 3
   have f4 := HQ2.out.2.2.1.fz 4
   have f5 := HQ2.out.2.2.1.fz 5
   have f6 := HQ2.out.2.2.1.fz 6
   have e0 := HQ2.out.2.2.1.cs 0 _ rfl
   have e1 := HQ2.out.2.2.1.cs 1 _ rfl
   have e2 := HQ2.out.2.2.1.cs 2 _ rfl
   have e3 := HQ2.out.2.2.1.cs 3 _ rfl
   have e4 := HQ2.out.2.2.1.cs 4 _ rfl
   have e5 := HQ2.out.2.2.1.cs 5 _ rfl
   have e6 := HQ2.out.2.2.1.cs 6 _ rfl
   go_upto_region 15 with fail
   have k6 := kept_set7 v5 g1 (.int .i64 (P : Int)) (.slice d2.A d2.n d2.c) (.int .i64 ((Z.of F).u : Int)) (.int .i64 (P : Int)) (.slice d2.Al d2.z d2.cl) (.int .i64 (Z.of F).T) (.slice d2.Ak d2.zk d2.ck)
   have y1 := HQ2.out.2.2.1.set7 (.int .i64 (P : Int)) (.slice d2.A d2.n d2.c) (.int .i64 ((Z.of F).u : Int)) (.int .i64 (P : Int)) (.slice d2.Al d2.z d2.cl) (.int .i64 (Z.of F).T) (.slice d2.Ak d2.zk d2.ck)
   have y2 := HQ2.out.2.2.2.kept (by simp) k6 (fun e => by omega)
   have F6 := HQ2.out.2.1.set (g := g1) (by simp) k6
   generalize World.setCell _ ⟨g1, 6, none⟩ (.slice d2.Ak d2.zk d2.ck) = v6 at *
   have HY := Lib.hid (show Bxn v6 g1 (dcs P (Z.of F) d2) ∧ Bxn v6 g2 d0s ∧ Fr w v6 m Z d (Z.of F) d2 [g5, g2, g1] ∧ g1 < g2 from ⟨y1, y2, F6, h12⟩)
   clear y1 y2 F6 k6 HQ2 h12 x0 x1 x2 x3 x4 x5 x6 f0 f1 f2 f3 f4 f5 f6 e0 e1 e2 e3 e4 e5 e6
   have HX := Lib.hid (show 0 ≤ F.p ∧ F.p < P from HG.out.1 HE.out)
   have c0 := HY.out.1.cs 0 _ rfl
   have c1 := HY.out.1.cs 1 _ rfl
   have c2 := HY.out.1.cs 2 _ rfl
   go_wp2_with fail
   refine (rwrite10 HY.out.2.2.1.dc HA.out.1 HA.out.2.2.1 HA.out.2.2.2.1 F.p n kind o HA.out.2.2.2.2.2.2.2 HX.out.1 HX.out.2 (by have := HA.out.2.2.2.2.1; have := HM1.out; omega) (by have := HA.out.2.2.2.2.1; omega) HA.out.2.2.2.2.2.1 HA.out.2.2.2.2.2.2.1).mono ?_
   rintro e w4 ⟨A4, nn4, cc4, lg4, rfl, b4, D4, mv4⟩
   clear c0 c1 c2
   have bx := Bxn.new w4 28 [.int .i64 (P : Int), .slice A4 nn4 cc4, .int .i64 (((Z.of F).u : Int) + 1)]
   have b5 := (Below.refl w4.heap.size w4).alloc (Nat.le_refl _) (.cells [.int .i64 (P : Int), .slice A4 nn4 cc4, .int .i64 (((Z.of F).u : Int) + 1)].toArray 28)
   have ff5 := (HY.out.2.2.1.to D4 b4 mv4).new (.cells [.int .i64 (P : Int), .slice A4 nn4 cc4, .int .i64 (((Z.of F).u : Int) + 1)].toArray 28)
   have y1 := (HY.out.1.below (by simp) b4).below (by simp) b5
   have y2 := (HY.out.2.1.below (by simp) b4).below (by simp) b5
   have HY2 := Lib.hid (And.intro bx (And.intro ff5 (And.intro y1 y2)))
   clear bx ff5 y1 y2 b4 b5 D4 mv4
   have h12 := HY.out.2.2.2
   go_upto_region 16 with fail
   obtain ⟨w5, hw5⟩ : ∃ w5, w5 = w4.alloc (.cells [.int .i64 (P : Int), .slice A4 nn4 cc4, .int .i64 (((Z.of F).u : Int) + 1)].toArray 28) := ⟨_, rfl⟩
   obtain ⟨g6, hg6⟩ : ∃ g, g = w4.heap.size := ⟨_, rfl⟩
   rw [show w4.alloc (.cells #[.int .i64 (P : Int), .slice A4 nn4 cc4, .int .i64 (((Z.of F).u : Int) + 1)] 28) = w5 from hw5.symm, ← hg6]
   have HZ := Lib.hid (show Bxn w5 g6 [.int .i64 (P : Int), .slice A4 nn4 cc4, .int .i64 (((Z.of F).u : Int) + 1)] ∧ Fr w w5 (m + 1) Z d ({ (Z.of F) with u := (Z.of F).u + 1, f := M.wr Z.f ((F.p).toNat * 4096) (M.hd n.toNat kind.toNat o 0) } : St) ({ d2 with A := A4, n := nn4, c := cc4, lg := lg4 } : Dc) [g6, g5, g2, g1] ∧ Bxn w5 g1 (dcs P (Z.of F) d2) ∧ Bxn w5 g2 d0s from by rw [hw5, hg6]; exact HY2.out)
   clear hw5 hg6 HY2 HY
   have u0 := HZ.out.1.cs 0 _ rfl
   have u1 := HZ.out.1.cs 1 _ rfl
   have u2 := HZ.out.1.cs 2 _ rfl
   have z0 := HZ.out.2.2.1.fz 0
   have z1 := HZ.out.2.2.1.fz 1
   have z2 := HZ.out.2.2.1.fz 2
   have c0 := HZ.out.2.2.1.cs 0 _ rfl
   have c1 := HZ.out.2.2.1.cs 1 _ rfl
   have c2 := HZ.out.2.2.1.cs 2 _ rfl
   go_upto_region 17 with fail
   have k7 := set3_kept w5 g1 0 1 2 (.int .i64 (P : Int)) (.slice A4 nn4 cc4) (.int .i64 (((Z.of F).u : Int) + 1))
   have y7 := set3_at0 HZ.out.2.2.1 (.int .i64 (P : Int)) (.slice A4 nn4 cc4) (.int .i64 (((Z.of F).u : Int) + 1))
   have F7 := HZ.out.2.1.set (g := g1) (by simp) k7
   have x7 := HZ.out.2.2.2.kept (by simp) k7 (fun e => by omega)
   generalize ((World.setCell _ ⟨g1, 0, none⟩ (.int .i64 (P : Int))).setCell ⟨g1, 1, none⟩ (.slice A4 nn4 cc4)).setCell ⟨g1, 2, none⟩ (.int .i64 (((Z.of F).u : Int) + 1)) = w7 at *
   clear k7 u0 u1 u2 z0 z1 z2 c0 c1 c2
   have c0 := y7.cs 0 _ rfl
   have c1 := y7.cs 1 _ rfl
   have c2 := y7.cs 2 _ rfl
   have c3 := y7.cs 3 _ rfl
   have c4 := y7.cs 4 _ rfl
   have c5 := y7.cs 5 _ rfl
   have c6 := y7.cs 6 _ rfl
   have f0 := x7.fz 0
   have f1 := x7.fz 1
   have f2 := x7.fz 2
   have f3 := x7.fz 3
   have f4 := x7.fz 4
   have f5 := x7.fz 5
   have f6 := x7.fz 6
   have e0 := x7.cs 0 _ rfl
   have e1 := x7.cs 1 _ rfl
   have e2 := x7.cs 2 _ rfl
   have e3 := x7.cs 3 _ rfl
   have e4 := x7.cs 4 _ rfl
   have e5 := x7.cs 5 _ rfl
   have e6 := x7.cs 6 _ rfl
   have H7 := Lib.hid (And.intro F7 x7)
   clear F7 x7 y7 HZ h12
   go_wp2_with fail
   rw [HGE.out.1, HGE.out.2.1, HGE.out.2.2.1, HGE.out.2.2.2, if_pos HE.out, if_pos HE.out, if_pos HE.out, HE.out]
   have y8 := H7.out.2.set7 (.int .i64 (P : Int)) (.slice A4 nn4 cc4) (.int .i64 (((Z.of F).u : Int) + 1)) (.int .i64 (P : Int)) (.slice d2.Al d2.z d2.cl) (.int .i64 (Z.of F).T) (.slice d2.Ak d2.zk d2.ck)
   have F8 := H7.out.1.done (P := P) (g := g2) (by simp) (kept_set7 w7 g2 (.int .i64 (P : Int)) (.slice A4 nn4 cc4) (.int .i64 (((Z.of F).u : Int) + 1)) (.int .i64 (P : Int)) (.slice d2.Al d2.z d2.cl) (.int .i64 (Z.of F).T) (.slice d2.Ak d2.zk d2.ck)) (fun v => .tuple #[v, .int .i64 F.p, .int .i64 n, .int .i64 0])
   refine bodyPost_ret (v := .tuple #[.agg #[.int .i64 (P : Int), .slice A4 nn4 cc4, .int .i64 (((Z.of F).u : Int) + 1), .int .i64 (P : Int), .slice d2.Al d2.z d2.cl, .int .i64 (Z.of F).T, .slice d2.Ak d2.zk d2.ck], .int .i64 F.p, .int .i64 n, .int .i64 0]) ?_ rfl ?_
   rotate_left
   ·exact F8
   ·clear F8
    have t0 := y8.cs 0 _ rfl
    have t1 := y8.cs 1 _ rfl
    have t2 := y8.cs 2 _ rfl
    have t3 := y8.cs 3 _ rfl
    have t4 := y8.cs 4 _ rfl
    have t5 := y8.cs 5 _ rfl
    have t6 := y8.cs 6 _ rfl
    generalize World.setCell _ ⟨g2, 6, none⟩ _ = w8 at t0 t1 t2 t3 t4 t5 t6 ⊢
    simp [results, go_sem, t0, t1, t2, t3, t4, t5, t6]
  ·have HE := Lib.hid he
   rw [he]
   clear he
   have f0 := HQ2.out.2.2.2.fz 0
   have f1 := HQ2.out.2.2.2.fz 1
   have f2 := HQ2.out.2.2.2.fz 2
   have f3 := HQ2.out.2.2.2.fz 3
   have f4 := HQ2.out.2.2.2.fz 4
   have f5 := HQ2.out.2.2.2.fz 5
   have f6 := HQ2.out.2.2.2.fz 6
   have e0 := HQ2.out.2.2.2.cs 0 _ rfl
   have e1 := HQ2.out.2.2.2.cs 1 _ rfl
   have e2 := HQ2.out.2.2.2.cs 2 _ rfl
   have e3 := HQ2.out.2.2.2.cs 3 _ rfl
   have e4 := HQ2.out.2.2.2.cs 4 _ rfl
   have e5 := HQ2.out.2.2.2.cs 5 _ rfl
   have e6 := HQ2.out.2.2.2.cs 6 _ rfl
   go_wp2_with fail
   rw [HGE.out.1, HGE.out.2.1, HGE.out.2.2.1, HGE.out.2.2.2, if_neg (by rw [HE.out]; decide), if_neg (by rw [HE.out]; decide), if_neg (by rw [HE.out]; decide), HE.out]
   have y8 := HQ2.out.2.2.2.set7 (.int .i64 (P : Int)) (.slice d2.A d2.n d2.c) (.int .i64 (Z.of F).u) (.int .i64 (P : Int)) (.slice d2.Al d2.z d2.cl) (.int .i64 (Z.of F).T) (.slice d2.Ak d2.zk d2.ck)
   have F8 := (HQ2.out.2.1.more (Nat.le_succ m)).done (P := P) (g := g2) (by simp) (kept_set7 v5 g2 (.int .i64 (P : Int)) (.slice d2.A d2.n d2.c) (.int .i64 (Z.of F).u) (.int .i64 (P : Int)) (.slice d2.Al d2.z d2.cl) (.int .i64 (Z.of F).T) (.slice d2.Ak d2.zk d2.ck)) (fun v => .tuple #[v, .int .i64 0, .int .i64 0, .int .i64 4])
   refine bodyPost_ret (v := .tuple #[.agg #[.int .i64 (P : Int), .slice d2.A d2.n d2.c, .int .i64 (Z.of F).u, .int .i64 (P : Int), .slice d2.Al d2.z d2.cl, .int .i64 (Z.of F).T, .slice d2.Ak d2.zk d2.ck], .int .i64 0, .int .i64 0, .int .i64 4]) ?_ rfl ?_
   rotate_left
   ·exact F8
   ·clear F8
    have t0 := y8.cs 0 _ rfl
    have t1 := y8.cs 1 _ rfl
    have t2 := y8.cs 2 _ rfl
    have t3 := y8.cs 3 _ rfl
    have t4 := y8.cs 4 _ rfl
    have t5 := y8.cs 5 _ rfl
    have t6 := y8.cs 6 _ rfl
    generalize World.setCell _ ⟨g2, 6, none⟩ _ = w8 at t0 t1 t2 t3 t4 t5 t6 ⊢
    simp [results, go_sem, t0, t1, t2, t3, t4, t5, t6]
theorem rcget10 (h : Doc w Z d m) (hm : m ≤ 900) {G : List M.R} (hi : Inv P Z G) (hP1 : 1 ≤ P) (hP2 : P ≤ 1048576) (hF : Fit P Z.l Z.T k) (hk : k ≤ 80000) (hL : Z.l.length + (M.all Z.K).length ≤ 100) (hu : Z.u ≤ 900000000000) (pages kind : Int) (o : Nat) (ho : o < 18446744073709551616) :
  Calls Tryz.prog 7 #[dv P Z d, .int .i64 pages, .int .i64 kind, .int .u64 (o : Int)] w (DGot w P Z d (Z.gt P pages kind o) (m + 1) fun v => .tuple #[v, .int .i64 (gtP P Z pages kind), .int .i64 (gtN P Z pages kind), .int .i64 (gtE P Z pages kind)]) := by
 unfold gtP gtN gtE St.gt
 by_cases hb : getB pages kind = true
 ·obtain ⟨h1, h2, h3, h4⟩ := (getB_iff _ _).1 hb
  rw [if_pos hb, if_pos hb, if_pos hb, if_pos hb]
  exact rcget_good10 h hm hi hP1 hP2 hF hk hL hu pages kind o h1 h2 h3 h4 ho
 ·rw [if_neg hb, if_neg hb, if_neg hb, if_neg hb]
  refine (rcget_bad10 h pages kind (o : Int) (by simpa using hb)).mono ?_
  rintro e w' ⟨d', e1, e2, e3, e4⟩
  exact ⟨d', e1, e2.more (Nat.le_succ m), e3, e4⟩
end
end Go.Proofs.YtmboibipabkhaaaGreat
