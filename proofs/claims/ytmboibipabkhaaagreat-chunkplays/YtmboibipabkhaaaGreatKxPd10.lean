/-
  The document's Put.
-/
import Derived.Test.YtmboibipabkhaaaGreatKxK0
import Derived.Test.YtmboibipabkhaaaGreatKxQ10
import Derived.Test.YtmboibipabkhaaaGreatKxK10
namespace Go.Proofs.YtmboibipabkhaaaGreat
open Go.ChangeShapes Go.WideShapes Go.ChangeAt Go.RowKit Go.Deep
set_option linter.unusedVariables false
set_option maxRecDepth 20000
section
variable {w : World} {P m k : Nat} {Z : St} {d : Dc}
set_option maxHeartbeats 8000000 in
theorem rcput10 (h : Doc w Z d m) (hm : m ≤ 900) {G : List M.R} {p n : Int} (hi : Inv P Z (⟨p, n⟩ :: G)) (hP1 : 1 ≤ P) (hP2 : P ≤ 1048576) (hF : Fit P Z.l Z.T k) (hk : k ≤ 80000) (hL : Z.l.length + (M.all Z.K).length ≤ 100) (hu : Z.u ≤ 700000000000) :
  Calls Tryz.prog 9 #[dv P Z d, .int .i64 p] w (DGot w P Z d (Z.put P p n) (m + 1) fun v => .tuple #[v, .int .i64 0]) := by
 obtain ⟨w1, hw1⟩ : ∃ w1, w1 = (w.alloc (.cells (dcs P Z d).toArray 34)).alloc (.cells d0s.toArray 34) := ⟨_, rfl⟩
 obtain ⟨g1, hg1⟩ : ∃ g, g = w.heap.size := ⟨_, rfl⟩
 obtain ⟨g2, hg2⟩ : ∃ g, g = w.heap.size + 1 := ⟨_, rfl⟩
 have HT := Lib.hid (show Bxn w1 g1 (dcs P Z d) ∧ Bxn w1 g2 d0s ∧ Fr w w1 m Z d Z d [g2, g1] ∧ g1 < g2 from by
  have b := box_two w P Z d
  rw [hw1, hg1, hg2]
  have f := ((Fr.begin h).new (.cells (dcs P Z d).toArray 34)).new (.cells d0s.toArray 34)
  rw [size1] at f
  exact ⟨b.1, b.2.1, f, by omega⟩)
 obtain ⟨kd, ow, hS⟩ := hi.hd _ (List.mem_cons_self ..)
 have hin := hi.in (List.mem_cons_self ..)
 simp only at hS hin
 have HS := Lib.hid (show p = (p.toNat : Int) ∧ p.toNat < P ∧ n = (n.toNat : Int) ∧ 0 ≤ p ∧ 1 ≤ n ∧ p + n ≤ P from by omega)
 have HPT := Lib.hid (pt_pt hi.good (show Pt P Z.l (⟨p, n⟩ :: (M.all Z.K ++ G)) from hi.pt.perm List.perm_middle))
 obtain ⟨u1, hu1⟩ : ∃ u1, u1 = Z.u + 1 := ⟨_, rfl⟩
 obtain ⟨u3, hu3⟩ : ∃ u3, u3 = u1 + 2 := ⟨_, rfl⟩
 obtain ⟨f2, hf2⟩ : ∃ f2, f2 = M.zr Z.f (p.toNat * 4096) 32 := ⟨_, rfl⟩
 have READ0 := fun W hW => rread10 (w := W) (d := d) hW hm hP2 (by omega) p p.toNat n.toNat kd ow 0 HS.out.1 HS.out.2.1 hS
 rw [← hu1, ← HS.out.2.2.1] at READ0
 have READ := Lib.hid READ0
 have CLR0 := fun W hW => rclear10 (w := W) (P := P) (Z := { Z with u := u1 }) (d := d) (m := m) hW hm hP2 (by simp only; omega) p p.toNat n.toNat kd ow 0 HS.out.1 HS.out.2.1 hS
 dsimp only at CLR0
 rw [← hu3, ← hf2] at CLR0
 have CLR := Lib.hid CLR0
 obtain ⟨c, hc⟩ : ∃ c, c = M.cls n := ⟨_, rfl⟩
 have HC := Lib.hid hc
 obtain ⟨q, hq⟩ : ∃ q, q = M.pg c := ⟨_, rfl⟩
 have HQ := Lib.hid hq
 obtain ⟨Z2, hZ2⟩ : ∃ x : St, x = { Z with u := u3, f := f2 } := ⟨_, rfl⟩
 have HU := Lib.hid (show Z2.l = Z.l ∧ Z2.T = Z.T ∧ Z2.K = Z.K ∧ Z2.f = f2 ∧ Z2.u = u3 ∧ (u3 = Z.u + 3 ∧ f2 = M.zr Z.f (p.toNat * 4096) 32) from by rw [hZ2]; exact ⟨rfl, rfl, rfl, rfl, rfl, by omega, hf2⟩)
 have PUSH0 := fun W dd hW => rpush10 (w := W) (Z := Z2) (d := dd) (m := m + 1) hW (by rw [HU.out.2.2.1]; exact hi.good) c p
 rw [HU.out.2.2.1] at PUSH0
 have PUSH := Lib.hid PUSH0
 have GIVE0 := fun W dd hW => rgive10 (w := W) (P := P) (Z := Z2) (d := dd) (m := m + 1) (k := k) hW hP1 hP2 (by rw [HU.out.1, HU.out.2.1]; exact hF) hk (by rw [HU.out.1]; omega) p n HS.out.2.2.2.1 HS.out.2.2.2.2.1 HS.out.2.2.2.2.2
 obtain ⟨l5, hl5⟩ : ∃ x, x = gvL Z2.l P p n := ⟨_, rfl⟩
 obtain ⟨t5, ht5⟩ : ∃ x, x = gvT Z2.l P p n Z2.T := ⟨_, rfl⟩
 rw [← hl5, ← ht5] at GIVE0
 have HE := Lib.hid (show l5 = gvL Z.l P p n ∧ t5 = gvT Z.l P p n Z.T ∧ gvE Z2.l P p n = gvE Z.l P p n from by rw [hl5, ht5, HU.out.1, HU.out.2.1]; exact ⟨rfl, rfl, rfl⟩)
 have GIVE := Lib.hid GIVE0
 have HZ2 := Lib.hid hZ2
 clear h hm hi hP1 hP2 hF hk hL hu hS hin hc hq hu1 hu3 hf2 hZ2 hl5 ht5 READ0 CLR0 PUSH0 GIVE0
 go_enter Tryz.func9, Tryz.ntmps9
 go_upto_region 1 with fail
 rw [show (w.alloc (.cells #[.int .i64 (P : Int), .slice d.A d.n d.c, .int .i64 (Z.u : Int), .int .i64 (P : Int), .slice d.Al d.z d.cl, .int .i64 Z.T, .slice d.Ak d.zk d.ck] 34)).alloc (.cells #[.int .i64 0, .slice none 0 0, .int .i64 0, .int .i64 0, .slice none 0 0, .int .i64 0, .slice none 0 0] 34) = w1 from hw1.symm, ← hg2, ← hg1]
 clear hw1 hg1 hg2
 have c0 := HT.out.1.cs 0 _ rfl
 have c1 := HT.out.1.cs 1 _ rfl
 have c2 := HT.out.1.cs 2 _ rfl
 go_wp2_with fail
 refine (READ.out w1 HT.out.2.2.1.dc).mono ?_
 rintro e w2 ⟨rfl, b2⟩
 go_upto_region 2 with fail
 obtain ⟨w3, hw3⟩ : ∃ x, x = (w2.alloc (.cells #[.int .i64 (P : Int), .slice d.A d.n d.c, .int .i64 (u1 : Int)] 28)).alloc (.cells #[.int .i64 n, .int .i64 (kd : Int), .int .u64 (ow : Int), .int .u64 0] 82) := ⟨_, rfl⟩
 obtain ⟨g3, hg3⟩ : ∃ g, g = w2.heap.size := ⟨_, rfl⟩
 obtain ⟨g4, hg4⟩ : ∃ g, g = w2.heap.size + 1 := ⟨_, rfl⟩
 have H3 := Lib.hid (show Bxn w3 g1 (dcs P Z d) ∧ Bxn w3 g2 d0s ∧ Bxn w3 g3 [.int .i64 (P : Int), .slice d.A d.n d.c, .int .i64 (u1 : Int)] ∧ Bxn w3 g4 [.int .i64 n, .int .i64 (kd : Int), .int .u64 (ow : Int), .int .u64 0] ∧ Fr w w3 m Z d Z d [g4, g3, g2, g1] ∧ g1 < g2 ∧ g2 < g3 ∧ g3 < g4 from by
  have ba := (Below.refl w2.heap.size w2).alloc (Nat.le_refl _) (.cells [.int .i64 (P : Int), .slice d.A d.n d.c, .int .i64 (u1 : Int)].toArray 28)
  have x4 := Bxn.new (w2.alloc (.cells [.int .i64 (P : Int), .slice d.A d.n d.c, .int .i64 (u1 : Int)].toArray 28)) 82 [.int .i64 n, .int .i64 (kd : Int), .int .u64 (ow : Int), .int .u64 0]
  have bb := (Below.refl (w2.alloc (.cells [.int .i64 (P : Int), .slice d.A d.n d.c, .int .i64 (u1 : Int)].toArray 28)).heap.size (w2.alloc (.cells [.int .i64 (P : Int), .slice d.A d.n d.c, .int .i64 (u1 : Int)].toArray 28))).alloc (Nat.le_refl _) (.cells [.int .i64 n, .int .i64 (kd : Int), .int .u64 (ow : Int), .int .u64 0].toArray 82)
  have f := ((HT.out.2.2.1.below b2).new (.cells [.int .i64 (P : Int), .slice d.A d.n d.c, .int .i64 (u1 : Int)].toArray 28)).new (.cells [.int .i64 n, .int .i64 (kd : Int), .int .u64 (ow : Int), .int .u64 0].toArray 82)
  rw [size1] at x4 f
  have l2 := HT.out.2.1.lt (by simp)
  have := b2.size
  have := HT.out.2.2.2
  rw [hw3, hg3, hg4]
  exact ⟨((HT.out.1.below (by simp) b2).below (by simp) ba).below (by simp) bb, ((HT.out.2.1.below (by simp) b2).below (by simp) ba).below (by simp) bb, (Bxn.new w2 28 [.int .i64 (P : Int), .slice d.A d.n d.c, .int .i64 (u1 : Int)]).below (by simp) bb, x4, f, this, by omega, by omega⟩)
 rw [← hw3, ← hg4, ← hg3]
 clear hw3 hg3 hg4 HT b2 c0 c1 c2
 have c0 := H3.out.2.2.1.cs 0 _ rfl
 have c1 := H3.out.2.2.1.cs 1 _ rfl
 have c2 := H3.out.2.2.1.cs 2 _ rfl
 go_wp2_with fail
 refine (CLR.out w3 (H3.out.2.2.2.2.1.dc.at rfl rfl rfl)).mono ?_
 rintro e w4 ⟨A4, nn4, cc4, lg4, rfl, b4, D4, mv4⟩
 go_upto_region 6 with fail
 obtain ⟨w5, hw5⟩ : ∃ x, x = w4.alloc (.cells #[.int .i64 (P : Int), .slice A4 nn4 cc4, .int .i64 (u3 : Int)] 28) := ⟨_, rfl⟩
 obtain ⟨g5, hg5⟩ : ∃ g, g = w4.heap.size := ⟨_, rfl⟩
 obtain ⟨d2, hd2⟩ : ∃ x : Dc, x = { d with A := A4, n := nn4, c := cc4, lg := lg4 } := ⟨_, rfl⟩
 have H5 := Lib.hid (show Bxn w5 g1 (dcs P Z d) ∧ Bxn w5 g2 d0s ∧ Bxn w5 g4 [.int .i64 n, .int .i64 (kd : Int), .int .u64 (ow : Int), .int .u64 0] ∧ Bxn w5 g5 [.int .i64 (P : Int), .slice A4 nn4 cc4, .int .i64 (u3 : Int)] ∧ Fr w w5 (m + 1) Z d Z2 d2 [g5, g4, g3, g2, g1] ∧ g1 < g2 ∧ g2 < g4 from by
  have ba := (Below.refl w4.heap.size w4).alloc (Nat.le_refl _) (.cells [.int .i64 (P : Int), .slice A4 nn4 cc4, .int .i64 (u3 : Int)].toArray 28)
  have f0 := H3.out.2.2.2.2.1.at (Z' := { Z with u := u1 }) rfl rfl rfl
  have f := (f0.to D4 b4 mv4).new (.cells [.int .i64 (P : Int), .slice A4 nn4 cc4, .int .i64 (u3 : Int)].toArray 28)
  have := H3.out.2.2.2.2.2
  rw [hw5, hg5, HZ2.out, hd2]
  exact ⟨(H3.out.1.below (by simp) b4).below (by simp) ba, (H3.out.2.1.below (by simp) b4).below (by simp) ba, (H3.out.2.2.2.1.below (by simp) b4).below (by simp) ba, Bxn.new w4 28 [.int .i64 (P : Int), .slice A4 nn4 cc4, .int .i64 (u3 : Int)], f, by omega, by omega⟩)
 have HD := Lib.hid (show d2.Al = d.Al ∧ d2.z = d.z ∧ d2.cl = d.cl ∧ d2.Ak = d.Ak ∧ d2.zk = d.zk ∧ d2.ck = d.ck ∧ d2.A = A4 ∧ d2.n = nn4 ∧ d2.c = cc4 from by rw [hd2]; exact ⟨rfl, rfl, rfl, rfl, rfl, rfl, rfl, rfl, rfl⟩)
 rw [show w4.alloc (.cells #[.int .i64 (P : Int), .slice A4 nn4 cc4, .int .i64 (u3 : Int)] 28) = w5 from hw5.symm, ← hg5]
 clear hw5 hg5 hd2 H3 b4 D4 mv4 c0 c1 c2
 have c0 := H5.out.1.cs 0 _ rfl
 have c1 := H5.out.1.cs 1 _ rfl
 have c2 := H5.out.1.cs 2 _ rfl
 have z0 := H5.out.1.fz 0
 have z1 := H5.out.1.fz 1
 have z2 := H5.out.1.fz 2
 have u0 := H5.out.2.2.2.1.cs 0 _ rfl
 have u1 := H5.out.2.2.2.1.cs 1 _ rfl
 have u2 := H5.out.2.2.2.1.cs 2 _ rfl
 go_upto_region 7 with fail
 have k7 := set3_kept w5 g1 0 1 2 (.int .i64 (P : Int)) (.slice A4 nn4 cc4) (.int .i64 (u3 : Int))
 have y7 := set3_at0 H5.out.1 (.int .i64 (P : Int)) (.slice A4 nn4 cc4) (.int .i64 (u3 : Int))
 have F7 := H5.out.2.2.2.2.1.set (g := g1) (by simp) k7
 have x7 := H5.out.2.1.kept (by simp) k7 (fun e => by have := H5.out.2.2.2.2.2; omega)
 have h7 := H5.out.2.2.1.kept (by simp) k7 (fun e => by have := H5.out.2.2.2.2.2; omega)
 generalize ((World.setCell _ ⟨g1, 0, none⟩ (.int .i64 (P : Int))).setCell ⟨g1, 1, none⟩ (.slice A4 nn4 cc4)).setCell ⟨g1, 2, none⟩ (.int .i64 (u3 : Int)) = w7 at *
 have H7 := Lib.hid (show Bxn w7 g1 (dcs P Z2 d2) ∧ Bxn w7 g2 d0s ∧ Bxn w7 g4 [.int .i64 n, .int .i64 (kd : Int), .int .u64 (ow : Int), .int .u64 0] ∧ Fr w w7 (m + 1) Z d Z2 d2 [g5, g4, g3, g2, g1] ∧ g1 < g2 ∧ g2 < g4 from ⟨by have h := HD.out; have hz := HU.out; rw [show dcs P Z2 d2 = [.int .i64 (P : Int), .slice A4 nn4 cc4, .int .i64 (u3 : Int), .int .i64 (P : Int), .slice d.Al d.z d.cl, .int .i64 Z.T, .slice d.Ak d.zk d.ck] from by simp only [dcs, h, hz]]; exact y7, x7, h7, F7, H5.out.2.2.2.2.2⟩)
 clear H5 k7 y7 F7 x7 h7 u0 u1 u2 z0 z1 z2 c0 c1 c2
 have c0 := H7.out.2.2.1.cs 0 _ rfl
 go_wp2_with fail
 refine (rclass_at n c rfl HC.out.symm w7).mono ?_
 rintro e w8 ⟨rfl, rfl⟩
 have c6 := H7.out.1.cs 6 _ rfl
 go_wp2_with fail
 refine (PUSH.out w7 d2 H7.out.2.2.2.1.dc).mono ?_
 rintro e w8 ⟨A2, k2, cc2, kl2, rfl, b8, D8, mv8⟩
 have HP8 := Lib.hid (show Bxn w8.drew g1 (dcs P Z2 d2) ∧ Bxn w8.drew g2 d0s ∧ Bxn w8.drew g4 [.int .i64 n, .int .i64 (kd : Int), .int .u64 (ow : Int), .int .u64 0] ∧ Fr w w8.drew (m + 1) Z d Z2 d2 [g5, g4, g3, g2, g1] ∧ Fr w w8.drew (m + 1) Z d { Z2 with K := M.pushF Z.K c p } { d2 with Ak := A2, zk := k2, ck := cc2, kl := kl2 } [g5, g4, g3, g2, g1] ∧ g1 < g2 ∧ g2 < g4 from by
  have bd := (Below.refl w8.heap.size w8).drew
  have := H7.out.2.2.2.2
  exact ⟨(H7.out.1.below (by simp) b8).below (by simp) bd, (H7.out.2.1.below (by simp) b8).below (by simp) bd, (H7.out.2.2.1.below (by simp) b8).below (by simp) bd, (H7.out.2.2.2.1.below b8).below bd, (H7.out.2.2.2.1.to D8 b8 mv8).below bd, this⟩)
 have HPE := Lib.hid (show Bxn w8 g1 (dcs P Z2 d2) ∧ Bxn w8 g2 d0s ∧ Fr w w8 (m + 1) Z d { Z2 with K := M.pushF Z.K c p } { d2 with Ak := A2, zk := k2, ck := cc2, kl := kl2 } [g5, g4, g3, g2, g1] from ⟨H7.out.1.below (by simp) b8, H7.out.2.1.below (by simp) b8, H7.out.2.2.2.1.to D8 b8 mv8⟩)
 have e0 := (H7.out.2.2.1.below (by simp) b8).cs 0 _ rfl
 clear H7 c0 c6 b8 D8 mv8
 rcases Bool.eq_false_or_eq_true (M.pushB Z.K c p) with hp | hp
 ·have HPB := Lib.hid hp
  rw [hp]
  clear hp
  by_cases hqn : q = n
  ·rw [hqn] at HQ
   clear hqn
   go_upto_region 9 with fail
   refine wp_region_noPanic ?_
   refine wp_region_held_drew (S := fun W => W.cell? ⟨g4, 0, none⟩ = some (.int .i64 n)) (by kernel_rfl) (e0) (fun hHeld => ?_)
   refine tkA 0 (some 49) (Op.move (Operand.tmp 13)) 4 (v := ?_) rfl (by kernel_rfl) ?_ ‹_› ?_
   rotate_left
   ·(intro w h; (try dsimp only at h); go_simp) <;> with_reducible rfl
   (try simp only [Act.put, yI, yZ, yS])
   refine tkA 1 (some 50) (Op.move (Operand.tmp 49)) 4 (v := ?_) rfl (by kernel_rfl) ?_ ‹_› ?_
   rotate_left
   ·(intro w h; (try dsimp only at h); go_simp) <;> with_reducible rfl
   (try simp only [Act.put, yI, yZ, yS])
   refine tkA 2 (some 51) (Op.move (Operand.tmp 11)) 3 (v := ?_) rfl (by kernel_rfl) ?_ ‹_› ?_
   rotate_left
   ·(intro w h; (try dsimp only at h); go_simp) <;> with_reducible rfl
   (try simp only [Act.put, yI, yZ, yS])
   refine tkA 4 (some 53) (Op.fieldAddr 82 (Operand.tmp 7) 0) 0 (v := ?_) rfl (by kernel_rfl) ?_ ‹_› ?_
   rotate_left
   ·(intro w h; (try dsimp only at h); go_simp) <;> with_reducible rfl
   (try simp only [Act.put, yI, yZ, yS])
   refine tkA 5 (some 54) (Op.load 3 (Operand.tmp 53)) 3 (v := ?_) rfl (by kernel_rfl) ?_ ‹_› ?_
   rotate_left
   ·(intro w h; (try dsimp only at h); go_simp) <;> with_reducible rfl
   (try simp only [Act.put, yI, yZ, yS])
   refine rdA (rs := [3]) (by kernel_rfl) ?_ rfl
   refine rcA (some 52) (Op.call { callee := Callee.value (Operand.func 29), args := #[Operand.tmp 51], argTypes := #[3] }) 3 rfl (by kernel_rfl) (fun K hK => ?_) AllReadyH.nil
   go_simp
   refine (rcpages_at c n rfl HQ.out.symm _).mono ?_
   rintro e w9 ⟨rfl, rfl⟩
   go_wp2_with fail
   refine hK.out _ _ ?_ (fun hHeld => ?_)
   ·exact e0
   clear hK K
   (try simp only [Act.put, yI, yZ, yS])
   refine tkA 6 (some 55) (Op.binOp BinOp.eql 3 (Operand.tmp 52) (Operand.tmp 54) 3) 4 (v := ?_) rfl (by kernel_rfl) ?_ ‹_› ?_
   rotate_left
   ·(intro w h; (try dsimp only at h); go_simp) <;> with_reducible rfl
   (try simp only [Act.put, yI, yZ, yS])
   refine tkA 7 (some 56) (Op.pick (Operand.tmp 50) (Operand.tmp 55) (Operand.const (Value.bool false))) 4 (v := ?_) rfl (by kernel_rfl) ?_ ‹_› ?_
   rotate_left
   ·(intro w h; (try dsimp only at h); go_simp) <;> with_reducible rfl
   (try simp only [Act.put, yI, yZ, yS])
   refine wpAnyH_done (by kernel_rfl) ?_ _
   refine NoPanic.normal ?_
   have HK := Lib.hid (show Z.put P p n = { Z2 with K := M.pushF Z.K c p } from by
    have e : ptK Z.K p n = true := by unfold ptK; rw [← HC.out, ← HQ.out, HPB.out]; simp
    unfold St.put ptL ptT ptKy
    rw [if_pos e, if_pos e, if_pos e, ← HC.out, show ({ Z2 with K := M.pushF Z.K c p } : St) = ⟨Z2.l, Z2.T, M.pushF Z.K c p, Z2.u, Z2.f⟩ from rfl, HU.out.1, HU.out.2.1, HU.out.2.2.2.1, HU.out.2.2.2.2.1, HU.out.2.2.2.2.2.1, HU.out.2.2.2.2.2.2])
   have z6 := HPE.out.1.fz 6
   have u6 := HPE.out.1.cs 6 _ rfl
   go_upto_region 11 with fail
   have k3 := kept_set1 (Kept.refl w8 (fun b => b = g1)) 6 (.slice A2 k2 cc2)
   have bd := (Below.refl (w8.setCell ⟨g1, 6, none⟩ (.slice A2 k2 cc2)).heap.size (w8.setCell ⟨g1, 6, none⟩ (.slice A2 k2 cc2))).drew
   have y1 := (set1_at6 HPE.out.1 (.slice A2 k2 cc2)).below (by simp) bd
   have y2 := (HPE.out.2.1.kept (by simp) k3 (fun e => by have := HP8.out.2.2.2.2.2; omega)).below (by simp) bd
   have fC := (HPE.out.2.2.set (g := g1) (by simp) k3).below bd
   generalize (World.setCell _ ⟨g1, 6, none⟩ (.slice A2 k2 cc2)).drew = w10 at *
   obtain ⟨Z3, hZ3⟩ : ∃ x : St, x = { Z2 with K := M.pushF Z.K c p } := ⟨_, rfl⟩
   obtain ⟨d3, hd3⟩ : ∃ x : Dc, x = { d2 with Ak := A2, zk := k2, ck := cc2, kl := kl2 } := ⟨_, rfl⟩
   have H10 := Lib.hid (show Bxn w10 g1 (dcs P Z3 d3) ∧ Bxn w10 g2 d0s ∧ Fr w w10 (m + 1) Z d Z3 d3 [g5, g4, g3, g2, g1] from ⟨by rw [hZ3, hd3]; exact y1, y2, by rw [hZ3, hd3]; exact fC⟩)
   have HW := Lib.hid (And.intro hZ3 hd3)
   clear k3 bd y1 y2 fC hZ3 hd3 z6 u6 HP8 HPE
   have c0 := H10.out.1.cs 0 _ rfl
   have c1 := H10.out.1.cs 1 _ rfl
   have c2 := H10.out.1.cs 2 _ rfl
   have c3 := H10.out.1.cs 3 _ rfl
   have c4 := H10.out.1.cs 4 _ rfl
   have c5 := H10.out.1.cs 5 _ rfl
   have c6 := H10.out.1.cs 6 _ rfl
   have f0 := H10.out.2.1.fz 0
   have f1 := H10.out.2.1.fz 1
   have f2 := H10.out.2.1.fz 2
   have f3 := H10.out.2.1.fz 3
   have f4 := H10.out.2.1.fz 4
   have f5 := H10.out.2.1.fz 5
   have f6 := H10.out.2.1.fz 6
   have e0 := H10.out.2.1.cs 0 _ rfl
   have e1 := H10.out.2.1.cs 1 _ rfl
   have e2 := H10.out.2.1.cs 2 _ rfl
   have e3 := H10.out.2.1.cs 3 _ rfl
   have e4 := H10.out.2.1.cs 4 _ rfl
   have e5 := H10.out.2.1.cs 5 _ rfl
   have e6 := H10.out.2.1.cs 6 _ rfl
   go_wp2_with fail
   rw [show Z.put P p n = Z3 from HK.out.trans HW.out.1.symm]
   have y8 := H10.out.2.1.set7 (.int .i64 (P : Int)) (.slice d3.A d3.n d3.c) (.int .i64 (Z3.u : Int)) (.int .i64 (P : Int)) (.slice d3.Al d3.z d3.cl) (.int .i64 Z3.T) (.slice d3.Ak d3.zk d3.ck)
   have F8 := H10.out.2.2.done (P := P) (g := g2) (by simp) (kept_set7 w10 g2 (.int .i64 (P : Int)) (.slice d3.A d3.n d3.c) (.int .i64 (Z3.u : Int)) (.int .i64 (P : Int)) (.slice d3.Al d3.z d3.cl) (.int .i64 Z3.T) (.slice d3.Ak d3.zk d3.ck)) (fun v => .tuple #[v, .int .i64 0])
   refine bodyPost_ret (v := .tuple #[.agg #[.int .i64 (P : Int), .slice d3.A d3.n d3.c, .int .i64 (Z3.u : Int), .int .i64 (P : Int), .slice d3.Al d3.z d3.cl, .int .i64 Z3.T, .slice d3.Ak d3.zk d3.ck], .int .i64 0]) ?_ rfl ?_
   rotate_left
   ·exact F8
   ·clear F8
    have t0 := y8.cs 0 _ rfl
    have t1 := y8.cs 1 _ rfl
    have t2 := y8.cs 2 _ rfl
    have t3 := y8.cs 3 _ rfl
    have t4 := y8.cs 4 _ rfl
    have t5 := y8.cs 5 _ rfl
    have t6 := y8.cs 6 _ rfl
    generalize World.setCell _ ⟨g2, 6, none⟩ _ = w8 at t0 t1 t2 t3 t4 t5 t6 ⊢
    simp [results, go_sem, t0, t1, t2, t3, t4, t5, t6]
  ·have HEQ := Lib.hid hqn
   clear hqn
   have hqd : (q == n) = false := by simpa using HEQ.out
   go_upto_region 9 with fail
   refine wp_region_noPanic ?_
   refine wp_region_held_drew (S := fun W => W.cell? ⟨g4, 0, none⟩ = some (.int .i64 n)) (by kernel_rfl) (e0) (fun hHeld => ?_)
   refine tkA 0 (some 49) (Op.move (Operand.tmp 13)) 4 (v := ?_) rfl (by kernel_rfl) ?_ ‹_› ?_
   rotate_left
   ·(intro w h; (try dsimp only at h); go_simp) <;> with_reducible rfl
   (try simp only [Act.put, yI, yZ, yS])
   refine tkA 1 (some 50) (Op.move (Operand.tmp 49)) 4 (v := ?_) rfl (by kernel_rfl) ?_ ‹_› ?_
   rotate_left
   ·(intro w h; (try dsimp only at h); go_simp) <;> with_reducible rfl
   (try simp only [Act.put, yI, yZ, yS])
   refine tkA 2 (some 51) (Op.move (Operand.tmp 11)) 3 (v := ?_) rfl (by kernel_rfl) ?_ ‹_› ?_
   rotate_left
   ·(intro w h; (try dsimp only at h); go_simp) <;> with_reducible rfl
   (try simp only [Act.put, yI, yZ, yS])
   refine tkA 4 (some 53) (Op.fieldAddr 82 (Operand.tmp 7) 0) 0 (v := ?_) rfl (by kernel_rfl) ?_ ‹_› ?_
   rotate_left
   ·(intro w h; (try dsimp only at h); go_simp) <;> with_reducible rfl
   (try simp only [Act.put, yI, yZ, yS])
   refine tkA 5 (some 54) (Op.load 3 (Operand.tmp 53)) 3 (v := ?_) rfl (by kernel_rfl) ?_ ‹_› ?_
   rotate_left
   ·(intro w h; (try dsimp only at h); go_simp) <;> with_reducible rfl
   (try simp only [Act.put, yI, yZ, yS])
   refine rdA (rs := [3]) (by kernel_rfl) ?_ rfl
   refine rcA (some 52) (Op.call { callee := Callee.value (Operand.func 29), args := #[Operand.tmp 51], argTypes := #[3] }) 3 rfl (by kernel_rfl) (fun K hK => ?_) AllReadyH.nil
   go_simp
   refine (rcpages_at c q rfl HQ.out.symm _).mono ?_
   rintro e w9 ⟨rfl, rfl⟩
   go_wp2_with fail
   refine hK.out _ _ ?_ (fun hHeld => ?_)
   ·exact e0
   clear hK K
   (try simp only [Act.put, yI, yZ, yS])
   refine tkA 6 (some 55) (Op.binOp BinOp.eql 3 (Operand.tmp 52) (Operand.tmp 54) 3) 4 (v := ?_) rfl (by kernel_rfl) ?_ ‹_› ?_
   rotate_left
   ·(intro w h; (try dsimp only at h); go_simp) <;> with_reducible rfl
   (try simp only [Act.put, yI, yZ, yS])
   refine tkA 7 (some 56) (Op.pick (Operand.tmp 50) (Operand.tmp 55) (Operand.const (Value.bool false))) 4 (v := ?_) rfl (by kernel_rfl) ?_ ‹_› ?_
   rotate_left
   ·(intro w h; (try dsimp only at h); go_simp) <;> with_reducible rfl
   (try simp only [Act.put, yI, yZ, yS])
   refine wpAnyH_done (by kernel_rfl) ?_ _
   refine NoPanic.normal ?_
   have HK := Lib.hid (show Z.put P p n = { Z2 with l := l5, T := t5 } ∧ gvE Z2.l P p n = 0 from by
    have e : ¬ ptK Z.K p n = true := by unfold ptK; rw [← HC.out, ← HQ.out]; simp [HEQ.out]
    refine ⟨?_, by rw [HE.out.2.2]; exact HPT.out.2.2.resolve_left e⟩
    unfold St.put ptL ptT ptKy
    rw [if_neg e, if_neg e, if_neg e, show ({ Z2 with l := l5, T := t5 } : St) = ⟨l5, t5, Z2.K, Z2.u, Z2.f⟩ from rfl, HE.out.1, HE.out.2.1, HU.out.2.2.1, HU.out.2.2.2.1, HU.out.2.2.2.2.1, HU.out.2.2.2.2.2.1, HU.out.2.2.2.2.2.2])
   have c3 := HP8.out.1.cs 3 _ rfl
   have c4 := HP8.out.1.cs 4 _ rfl
   have c5 := HP8.out.1.cs 5 _ rfl
   have h0 := HP8.out.2.2.1.cs 0 _ rfl
   go_wp2_with fail
   refine (GIVE.out w8.drew d2 HP8.out.2.2.2.1.dc).mono ?_
   rw [HK.out.2]
   rintro e w9 ⟨A5, zz5, cc5, rfl, b9, D9, mv9⟩
   go_upto_region 13 with fail
   obtain ⟨v9, hv9⟩ : ∃ x, x = w9.alloc (.cells #[.int .i64 (P : Int), .slice A5 zz5 cc5, .int .i64 t5] 31) := ⟨_, rfl⟩
   obtain ⟨g6, hg6⟩ : ∃ g, g = w9.heap.size := ⟨_, rfl⟩
   obtain ⟨Z3, hZ3⟩ : ∃ x : St, x = { Z2 with l := l5, T := t5 } := ⟨_, rfl⟩
   obtain ⟨d3, hd3⟩ : ∃ x : Dc, x = { d2 with Al := A5, z := zz5, cl := cc5 } := ⟨_, rfl⟩
   have H9 := Lib.hid (show Bxn v9 g1 (dcs P Z2 d2) ∧ Bxn v9 g2 d0s ∧ Bxn v9 g6 [.int .i64 (P : Int), .slice A5 zz5 cc5, .int .i64 t5] ∧ Fr w v9 (m + 1) Z d Z3 d3 [g6, g5, g4, g3, g2, g1] ∧ g1 < g2 from by
    have ba := (Below.refl w9.heap.size w9).alloc (Nat.le_refl _) (.cells [.int .i64 (P : Int), .slice A5 zz5 cc5, .int .i64 t5].toArray 31)
    have f := (HP8.out.2.2.2.1.to D9 b9 mv9).new (.cells [.int .i64 (P : Int), .slice A5 zz5 cc5, .int .i64 t5].toArray 31)
    rw [hv9, hg6, hZ3, hd3]
    exact ⟨(HP8.out.1.below (by simp) b9).below (by simp) ba, (HP8.out.2.1.below (by simp) b9).below (by simp) ba, Bxn.new w9 31 [.int .i64 (P : Int), .slice A5 zz5 cc5, .int .i64 t5], f, HP8.out.2.2.2.2.2.1⟩)
   rw [show w9.alloc (.cells #[.int .i64 (P : Int), .slice A5 zz5 cc5, .int .i64 t5] 31) = v9 from hv9.symm, ← hg6]
   have HW := Lib.hid (And.intro hZ3 hd3)
   clear hv9 hg6 HP8 HPE b9 D9 mv9 hZ3 hd3 h0 c3 c4 c5
   have u0 := H9.out.2.2.1.cs 0 _ rfl
   have u1 := H9.out.2.2.1.cs 1 _ rfl
   have u2 := H9.out.2.2.1.cs 2 _ rfl
   have z3 := H9.out.1.fz 3
   have z4 := H9.out.1.fz 4
   have z5 := H9.out.1.fz 5
   have c3 := H9.out.1.cs 3 _ rfl
   have c4 := H9.out.1.cs 4 _ rfl
   have c5 := H9.out.1.cs 5 _ rfl
   go_upto_region 14 with fail
   have k7 := set3_kept v9 g1 3 4 5 (.int .i64 (P : Int)) (.slice A5 zz5 cc5) (.int .i64 t5)
   have y7 := set3_at H9.out.1 (.int .i64 (P : Int)) (.slice A5 zz5 cc5) (.int .i64 t5)
   have F7 := H9.out.2.2.2.1.set (g := g1) (by simp) k7
   have x7 := H9.out.2.1.kept (by simp) k7 (fun e => by have := H9.out.2.2.2.2; omega)
   generalize ((World.setCell _ ⟨g1, 3, none⟩ (.int .i64 (P : Int))).setCell ⟨g1, 4, none⟩ (.slice A5 zz5 cc5)).setCell ⟨g1, 5, none⟩ (.int .i64 t5) = w10 at *
   have H10 := Lib.hid (show Bxn w10 g1 (dcs P Z3 d3) ∧ Bxn w10 g2 d0s ∧ Fr w w10 (m + 1) Z d Z3 d3 [g6, g5, g4, g3, g2, g1] from ⟨by rw [HW.out.1, HW.out.2]; exact y7, x7, F7⟩)
   clear k7 y7 F7 x7 u0 u1 u2 z3 z4 z5 c3 c4 c5 H9
   have c0 := H10.out.1.cs 0 _ rfl
   have c1 := H10.out.1.cs 1 _ rfl
   have c2 := H10.out.1.cs 2 _ rfl
   have c3 := H10.out.1.cs 3 _ rfl
   have c4 := H10.out.1.cs 4 _ rfl
   have c5 := H10.out.1.cs 5 _ rfl
   have c6 := H10.out.1.cs 6 _ rfl
   have f0 := H10.out.2.1.fz 0
   have f1 := H10.out.2.1.fz 1
   have f2 := H10.out.2.1.fz 2
   have f3 := H10.out.2.1.fz 3
   have f4 := H10.out.2.1.fz 4
   have f5 := H10.out.2.1.fz 5
   have f6 := H10.out.2.1.fz 6
   have e0 := H10.out.2.1.cs 0 _ rfl
   have e1 := H10.out.2.1.cs 1 _ rfl
   have e2 := H10.out.2.1.cs 2 _ rfl
   have e3 := H10.out.2.1.cs 3 _ rfl
   have e4 := H10.out.2.1.cs 4 _ rfl
   have e5 := H10.out.2.1.cs 5 _ rfl
   have e6 := H10.out.2.1.cs 6 _ rfl
   go_wp2_with fail
   rw [show Z.put P p n = Z3 from HK.out.1.trans HW.out.1.symm]
   have y8 := H10.out.2.1.set7 (.int .i64 (P : Int)) (.slice d3.A d3.n d3.c) (.int .i64 (Z3.u : Int)) (.int .i64 (P : Int)) (.slice d3.Al d3.z d3.cl) (.int .i64 Z3.T) (.slice d3.Ak d3.zk d3.ck)
   have F8 := H10.out.2.2.done (P := P) (g := g2) (by simp) (kept_set7 w10 g2 (.int .i64 (P : Int)) (.slice d3.A d3.n d3.c) (.int .i64 (Z3.u : Int)) (.int .i64 (P : Int)) (.slice d3.Al d3.z d3.cl) (.int .i64 Z3.T) (.slice d3.Ak d3.zk d3.ck)) (fun v => .tuple #[v, .int .i64 0])
   refine bodyPost_ret (v := .tuple #[.agg #[.int .i64 (P : Int), .slice d3.A d3.n d3.c, .int .i64 (Z3.u : Int), .int .i64 (P : Int), .slice d3.Al d3.z d3.cl, .int .i64 Z3.T, .slice d3.Ak d3.zk d3.ck], .int .i64 0]) ?_ rfl ?_
   rotate_left
   ·exact F8
   ·clear F8
    have t0 := y8.cs 0 _ rfl
    have t1 := y8.cs 1 _ rfl
    have t2 := y8.cs 2 _ rfl
    have t3 := y8.cs 3 _ rfl
    have t4 := y8.cs 4 _ rfl
    have t5 := y8.cs 5 _ rfl
    have t6 := y8.cs 6 _ rfl
    generalize World.setCell _ ⟨g2, 6, none⟩ _ = w8 at t0 t1 t2 t3 t4 t5 t6 ⊢
    simp [results, go_sem, t0, t1, t2, t3, t4, t5, t6]
 ·have HPB := Lib.hid hp
  rw [hp]
  clear hp
  go_upto_region 9 with fail
  refine wp_region_noPanic ?_
  refine wp_region_held_drew (S := fun _ => True) (by kernel_rfl) (trivial) (fun hHeld => ?_)
  refine tkA 0 (some 49) (Op.move (Operand.tmp 13)) 4 (v := ?_) rfl (by kernel_rfl) ?_ ‹_› ?_
  rotate_left
  ·(intro w h; (try dsimp only at h); go_simp) <;> with_reducible rfl
  (try simp only [Act.put, yI, yZ, yS])
  refine tkA 1 (some 50) (Op.move (Operand.tmp 49)) 4 (v := ?_) rfl (by kernel_rfl) ?_ ‹_› ?_
  rotate_left
  ·(intro w h; (try dsimp only at h); go_simp) <;> with_reducible rfl
  (try simp only [Act.put, yI, yZ, yS])
  refine tkO 2 (some 51) rfl (by kernel_rfl) ‹_› ?_
  (try simp only [Act.put, yI, yZ, yS])
  refine tkO 3 (some 52) rfl (by kernel_rfl) ‹_› ?_
  (try simp only [Act.put, yI, yZ, yS])
  refine tkO 4 (some 53) rfl (by kernel_rfl) ‹_› ?_
  (try simp only [Act.put, yI, yZ, yS])
  refine tkO 5 (some 54) rfl (by kernel_rfl) ‹_› ?_
  (try simp only [Act.put, yI, yZ, yS])
  refine tkO 6 (some 55) rfl (by kernel_rfl) ‹_› ?_
  (try simp only [Act.put, yI, yZ, yS])
  refine tkA 7 (some 56) (Op.pick (Operand.tmp 50) (Operand.tmp 55) (Operand.const (Value.bool false))) 4 (v := ?_) rfl (by kernel_rfl) ?_ ‹_› ?_
  rotate_left
  ·(intro w h; (try dsimp only at h); go_simp) <;> with_reducible rfl
  (try simp only [Act.put, yI, yZ, yS])
  refine wpAnyH_done (by kernel_rfl) ?_ _
  refine NoPanic.normal ?_
  have HK := Lib.hid (show Z.put P p n = { Z2 with l := l5, T := t5 } ∧ gvE Z2.l P p n = 0 from by
   have e : ¬ ptK Z.K p n = true := by unfold ptK; rw [← HC.out, HPB.out]; simp
   refine ⟨?_, by rw [HE.out.2.2]; exact HPT.out.2.2.resolve_left e⟩
   unfold St.put ptL ptT ptKy
   rw [if_neg e, if_neg e, if_neg e, show ({ Z2 with l := l5, T := t5 } : St) = ⟨l5, t5, Z2.K, Z2.u, Z2.f⟩ from rfl, HE.out.1, HE.out.2.1, HU.out.2.2.1, HU.out.2.2.2.1, HU.out.2.2.2.2.1, HU.out.2.2.2.2.2.1, HU.out.2.2.2.2.2.2])
  have c3 := HP8.out.1.cs 3 _ rfl
  have c4 := HP8.out.1.cs 4 _ rfl
  have c5 := HP8.out.1.cs 5 _ rfl
  have h0 := HP8.out.2.2.1.cs 0 _ rfl
  go_wp2_with fail
  refine (GIVE.out w8.drew d2 HP8.out.2.2.2.1.dc).mono ?_
  rw [HK.out.2]
  rintro e w9 ⟨A5, zz5, cc5, rfl, b9, D9, mv9⟩
  go_upto_region 13 with fail
  obtain ⟨v9, hv9⟩ : ∃ x, x = w9.alloc (.cells #[.int .i64 (P : Int), .slice A5 zz5 cc5, .int .i64 t5] 31) := ⟨_, rfl⟩
  obtain ⟨g6, hg6⟩ : ∃ g, g = w9.heap.size := ⟨_, rfl⟩
  obtain ⟨Z3, hZ3⟩ : ∃ x : St, x = { Z2 with l := l5, T := t5 } := ⟨_, rfl⟩
  obtain ⟨d3, hd3⟩ : ∃ x : Dc, x = { d2 with Al := A5, z := zz5, cl := cc5 } := ⟨_, rfl⟩
  have H9 := Lib.hid (show Bxn v9 g1 (dcs P Z2 d2) ∧ Bxn v9 g2 d0s ∧ Bxn v9 g6 [.int .i64 (P : Int), .slice A5 zz5 cc5, .int .i64 t5] ∧ Fr w v9 (m + 1) Z d Z3 d3 [g6, g5, g4, g3, g2, g1] ∧ g1 < g2 from by
   have ba := (Below.refl w9.heap.size w9).alloc (Nat.le_refl _) (.cells [.int .i64 (P : Int), .slice A5 zz5 cc5, .int .i64 t5].toArray 31)
   have f := (HP8.out.2.2.2.1.to D9 b9 mv9).new (.cells [.int .i64 (P : Int), .slice A5 zz5 cc5, .int .i64 t5].toArray 31)
   rw [hv9, hg6, hZ3, hd3]
   exact ⟨(HP8.out.1.below (by simp) b9).below (by simp) ba, (HP8.out.2.1.below (by simp) b9).below (by simp) ba, Bxn.new w9 31 [.int .i64 (P : Int), .slice A5 zz5 cc5, .int .i64 t5], f, HP8.out.2.2.2.2.2.1⟩)
  rw [show w9.alloc (.cells #[.int .i64 (P : Int), .slice A5 zz5 cc5, .int .i64 t5] 31) = v9 from hv9.symm, ← hg6]
  have HW := Lib.hid (And.intro hZ3 hd3)
  clear hv9 hg6 HP8 HPE b9 D9 mv9 hZ3 hd3 h0 c3 c4 c5
  have u0 := H9.out.2.2.1.cs 0 _ rfl
  have u1 := H9.out.2.2.1.cs 1 _ rfl
  have u2 := H9.out.2.2.1.cs 2 _ rfl
  have z3 := H9.out.1.fz 3
  have z4 := H9.out.1.fz 4
  have z5 := H9.out.1.fz 5
  have c3 := H9.out.1.cs 3 _ rfl
  have c4 := H9.out.1.cs 4 _ rfl
  have c5 := H9.out.1.cs 5 _ rfl
  go_upto_region 14 with fail
  have k7 := set3_kept v9 g1 3 4 5 (.int .i64 (P : Int)) (.slice A5 zz5 cc5) (.int .i64 t5)
  have y7 := set3_at H9.out.1 (.int .i64 (P : Int)) (.slice A5 zz5 cc5) (.int .i64 t5)
  have F7 := H9.out.2.2.2.1.set (g := g1) (by simp) k7
  have x7 := H9.out.2.1.kept (by simp) k7 (fun e => by have := H9.out.2.2.2.2; omega)
  generalize ((World.setCell _ ⟨g1, 3, none⟩ (.int .i64 (P : Int))).setCell ⟨g1, 4, none⟩ (.slice A5 zz5 cc5)).setCell ⟨g1, 5, none⟩ (.int .i64 t5) = w10 at *
  have H10 := Lib.hid (show Bxn w10 g1 (dcs P Z3 d3) ∧ Bxn w10 g2 d0s ∧ Fr w w10 (m + 1) Z d Z3 d3 [g6, g5, g4, g3, g2, g1] from ⟨by rw [HW.out.1, HW.out.2]; exact y7, x7, F7⟩)
  clear k7 y7 F7 x7 u0 u1 u2 z3 z4 z5 c3 c4 c5 H9
  have c0 := H10.out.1.cs 0 _ rfl
  have c1 := H10.out.1.cs 1 _ rfl
  have c2 := H10.out.1.cs 2 _ rfl
  have c3 := H10.out.1.cs 3 _ rfl
  have c4 := H10.out.1.cs 4 _ rfl
  have c5 := H10.out.1.cs 5 _ rfl
  have c6 := H10.out.1.cs 6 _ rfl
  have f0 := H10.out.2.1.fz 0
  have f1 := H10.out.2.1.fz 1
  have f2 := H10.out.2.1.fz 2
  have f3 := H10.out.2.1.fz 3
  have f4 := H10.out.2.1.fz 4
  have f5 := H10.out.2.1.fz 5
  have f6 := H10.out.2.1.fz 6
  have e0 := H10.out.2.1.cs 0 _ rfl
  have e1 := H10.out.2.1.cs 1 _ rfl
  have e2 := H10.out.2.1.cs 2 _ rfl
  have e3 := H10.out.2.1.cs 3 _ rfl
  have e4 := H10.out.2.1.cs 4 _ rfl
  have e5 := H10.out.2.1.cs 5 _ rfl
  have e6 := H10.out.2.1.cs 6 _ rfl
  go_wp2_with fail
  rw [show Z.put P p n = Z3 from HK.out.1.trans HW.out.1.symm]
  have y8 := H10.out.2.1.set7 (.int .i64 (P : Int)) (.slice d3.A d3.n d3.c) (.int .i64 (Z3.u : Int)) (.int .i64 (P : Int)) (.slice d3.Al d3.z d3.cl) (.int .i64 Z3.T) (.slice d3.Ak d3.zk d3.ck)
  have F8 := H10.out.2.2.done (P := P) (g := g2) (by simp) (kept_set7 w10 g2 (.int .i64 (P : Int)) (.slice d3.A d3.n d3.c) (.int .i64 (Z3.u : Int)) (.int .i64 (P : Int)) (.slice d3.Al d3.z d3.cl) (.int .i64 Z3.T) (.slice d3.Ak d3.zk d3.ck)) (fun v => .tuple #[v, .int .i64 0])
  refine bodyPost_ret (v := .tuple #[.agg #[.int .i64 (P : Int), .slice d3.A d3.n d3.c, .int .i64 (Z3.u : Int), .int .i64 (P : Int), .slice d3.Al d3.z d3.cl, .int .i64 Z3.T, .slice d3.Ak d3.zk d3.ck], .int .i64 0]) ?_ rfl ?_
  rotate_left
  ·exact F8
  ·clear F8
   have t0 := y8.cs 0 _ rfl
   have t1 := y8.cs 1 _ rfl
   have t2 := y8.cs 2 _ rfl
   have t3 := y8.cs 3 _ rfl
   have t4 := y8.cs 4 _ rfl
   have t5 := y8.cs 5 _ rfl
   have t6 := y8.cs 6 _ rfl
   generalize World.setCell _ ⟨g2, 6, none⟩ _ = w8 at t0 t1 t2 t3 t4 t5 t6 ⊢
   simp [results, go_sem, t0, t1, t2, t3, t4, t5, t6]
end
end Go.Proofs.YtmboibipabkhaaaGreat
