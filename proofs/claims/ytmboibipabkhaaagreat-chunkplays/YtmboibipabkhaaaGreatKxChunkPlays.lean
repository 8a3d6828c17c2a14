/-
  ChunkPlays is true whatever the input: whatever chunks are got, put and trimmed, each answer, the free runs, what is kept, and what ticks, are the document's; no conditions.
-/
import Derived.Test.YtmboibipabkhaaaGreatKxK0
import Derived.Test.YtmboibipabkhaaaGreatRows
import Derived.WalkKit
import Derived.ProofKit
import Derived.OpenShut
import Derived.ShutString
import Derived.ChangeOld
import Derived.Below
import Derived.Test.YtmboibipabkhaaaGreatKxDb10
import Derived.Test.YtmboibipabkhaaaGreatKxNl10
import Derived.Test.YtmboibipabkhaaaGreatKxRh9
import Derived.Test.YtmboibipabkhaaaGreatKxRT5
import Derived.Test.YtmboibipabkhaaaGreatKxK5
import Derived.Deep.CutBlock
import Derived.Deep.DeepCutAuto
namespace Go.Proofs.YtmboibipabkhaaaGreat.chunkPlays
open Go.ChangeShapes Go.WideShapes Go.ChangeAt Go.RowKit
set_option linter.unusedVariables false
theorem own : ownKnob Tryz.prog.godebug = none := by kernel_rfl
/-! The walk. -/
set_option maxRecDepth 20000 in
set_option maxHeartbeats 16000000 in
theorem walk (a0 : Int) (a1 : Option Addr) (len1 cap1 : Nat) (w : World) (w0 : (Lit.int .i64 a0).wf = true) (w1 : IsActs w a1 len1) :
  Calls Tryz.prog 3 #[.int .i64 a0, .slice a1 len1 cap1] w fun e w' => e = .returned (.bool true) ∧ Below w.heap.size w w' := by
 obtain ⟨hl63, L, hL, hActs⟩ := w1
 obtain ⟨N, hN⟩ : ∃ N : Nat, (N : Int) = min (max a0 1) 1048576 := ⟨(min (max a0 1) 1048576).toNat, by omega⟩
 have HN := Lib.hid (show (N : Int) = min (max a0 1) 1048576 ∧ 1 ≤ N ∧ N ≤ 1048576 by omega)
 have HA := Lib.hid (And.intro hL hActs)
 clear hN hActs hL w0
 go_enter Tryz.func3, Tryz.ntmps3
 go_wp2_with fail
 refine (awake10_any _).mono ?_
 rintro e w1 ⟨rfl, b1⟩
 have B1 := Lib.hid b1
 clear b1
 by_cases h50 : 50 < len1
 ·go_wp2_with fail
  go_ret
  exact ⟨rfl, B1.out⟩
 ·have d50 : decide (50 < (len1 : Int)) = false := by simp; omega
  go_wp2_with fail
  clear d50
  refine (cnew_any B1.out a0 N HN.out.1).mono ?_
  rintro e w2 ⟨s, a, b, c, Q0, rfl, h2, _, _, _⟩
  have H2 := Lib.hid h2
  clear h2
  go_wp2_with fail
  refine (rcnew10_any w2 a0 N HN.out.1).mono ?_
  rintro e w3 ⟨d0, rfl, D3, b3, dof3⟩
  have H3 := Lib.hid (And.intro (H2.out.below b3) (And.intro D3 (And.intro b3 dof3)))
  clear D3 b3 dof3
  go_upto_region 8 with fail
  obtain ⟨w4, hw4⟩ : ∃ x, x = w3.alloc (.cells #[.int .i64 (N : Int), .slice d0.A d0.n d0.c, .int .i64 ((St.new N).u : Int), .int .i64 (N : Int), .slice d0.Al d0.z d0.cl, .int .i64 (St.new N).T, .slice d0.Ak d0.zk d0.ck] 34) := ⟨_, rfl⟩
  obtain ⟨g, hg⟩ : ∃ g, g = w3.heap.size := ⟨_, rfl⟩
  have H4 := Lib.hid (show Ps w w4 s a b c N (100 * 0) 0 0 0 none (St.new N) (St.new N) d0 g Q0 (fun x => x = g) [] ∧ Inv N (St.new N) [] ∧ (St.new N).u ≤ 10 * 0 ∧ (St.new N).l.length + (M.all (St.new N).K).length ≤ 2 + 0 from by
   have b4 := (Below.refl w3.heap.size w3).alloc (Nat.le_refl _) (.cells (dcs N (St.new N) d0).toArray 34)
   have hx := H3.out.1
   have hl := fun x hx => H2.out.st.lt x hx
   have hbl := H2.out.bx.lt
   have hs3 := H3.out.2.2.1.size
   have e4 : w4 = w3.alloc (.cells (dcs N (St.new N) d0).toArray 34) := hw4
   have y := Bxn.new w3 34 (dcs N (St.new N) d0)
   have hsz : (w3.alloc (.cells (dcs N (St.new N) d0).toArray 34)).heap.size = w3.heap.size + 1 := by simp
   have hws := H2.out.bel.size
   rw [← e4] at b4 y hsz
   rw [← hg] at y
   refine ⟨⟨hx.other (Kept.of_below b4 (fun _ => False)) (fun x e => e.elim) (fun x e => .inr (by omega)) (fun x e => by omega), ⟨H3.out.2.1.below b4, y, fun x e => H3.out.2.2.2 x (hl x e), rfl, fun x e => ?_⟩, Lst.none' _ _ _ _ _ _, fun x e => (rowD_none x e).elim, fun e => (rowD_none g e).elim⟩, Inv.new N HN.out.2.1, by simp [St.new], by simp [St.new, M.all_empty]⟩
   subst e
   exact ⟨H3.out.2.1.fresh (by omega), fun q => by have := hl _ q; omega, by omega, by omega, by omega⟩)
  rw [← hw4, ← hg]
  clear hw4 hg H2 H3
  go_wp2_with fail
  go_loopw [9, 10] (fun sl i wr => ∃ (j t cc : Nat) (A : Option Addr) (Z : St) (d : Dc) (Q D : Nat → Prop) (G : List M.R), j ≤ len1 ∧ t ≤ j ∧ i = .int .i64 (j : Int) ∧ sl = .slice A t cc ∧ Hid (Ps w wr s a b c N (100 * j) j t cc A Z Z d g Q D G ∧ Inv N Z G ∧ Z.u ≤ 10 * j ∧ Z.l.length + (M.all Z.K).length ≤ 2 + j)) (fun _ i _ => len1 - (intOf i).toNat)
  case atStart => exact ⟨0, 0, 0, none, _, _, _, _, [], by omega, by omega, rfl, rfl, H4⟩
  case round =>
   clear H4
   obtain ⟨j, t, cc, A, Z, d, Q, D, G, hj, htj, rfl, rfl, HI⟩ := hrel
   by_cases hlt : j < len1
   ·have hjl : j < L.length := by have := HA.out.1; omega
    obtain ⟨bl, o, rfl, hc⟩ := HA.out.2 (by omega)
    have ha := (hc j hjl).keep HI.out.1.chk.bel
    obtain ⟨x, hx⟩ : ∃ x, x = L[j] := ⟨_, rfl⟩
    rw [← hx] at ha
    have HX := Lib.hid (show x.d < 256 ∧ (-9223372036854775808 ≤ x.p ∧ x.p ≤ 9223372036854775807) ∧ (-9223372036854775808 ≤ x.k ∧ x.k ≤ 9223372036854775807) ∧ x.o < 18446744073709551616 ∧ x.i < 256 from ⟨ha.d8, ha.pr, ha.kr, ha.or, ha.ir⟩)
    have e0 := ha.c0
    have e1 := ha.c1
    have e2 := ha.c2
    have e3 := ha.c3
    have e4 := ha.c4
    obtain ⟨dd, p, kd, ow, ix⟩ := x
    simp only at e0 e1 e2 e3 e4 HX
    have HR := Lib.hid (show j < 50 ∧ t ≤ j from ⟨by omega, htj⟩)
    obtain ⟨wa, hwa⟩ : ∃ x, x = wr.alloc (.cells #[.int .u8 (dd : Int), .int .i64 p, .int .i64 kd, .int .u64 (ow : Int), .int .u8 (ix : Int)] 39) := ⟨_, rfl⟩
    obtain ⟨y, hy⟩ : ∃ y, y = wr.heap.size := ⟨_, rfl⟩
    have HV := Lib.hid (show Ps w wa s a b c N (100 * j) j t cc A Z Z d g Q (fun x => D x ∨ x = y) G ∧ IsAct wa y 0 ⟨dd, p, kd, ow, ix⟩ ∧ ¬ Q y ∧ y ≠ g ∧ ¬ rowD A y from by
      rw [hwa, hy]
      refine ⟨HI.out.1.var _, ⟨?_, ?_, ?_, ?_, ?_, HX.out.1, HX.out.2.1, HX.out.2.2.1, HX.out.2.2.2.1, HX.out.2.2.2.2⟩, fun e => by have := HI.out.1.chk.st.lt _ e; omega, fun e => by have := (HI.out.1.dcb.own g HI.out.1.dcb.gD).2.2.2.2; omega, fun e => by have := (row_low HI.out.1.lst.row e).2; omega⟩ <;> (rw [World.cell?_alloc_mark]; rfl))
    have HJ := Lib.hid HI.out.2
    have htl := Lib.hid HI.out.1.tl
    clear hc hx ha htj HI
    go_upto_region 14 with fail
    rw [← hwa, ← hy]
    clear hwa hy e0 e1 e2 e3 e4
    have a0 := HV.out.2.1.c0
    simp only at a0
    by_cases hcn : dd = 1 ∧ t = 0
    · obtain ⟨rfl, rfl⟩ := hcn
      have H5 := Lib.hid (show Ps w wa s a b c N (100 * (j + 1)) (j + 1) 0 cc A Z Z d g Q (fun x => D x ∨ x = y) G ∧ Inv N Z G ∧ Z.u ≤ 10 * (j + 1) ∧ Z.l.length + (M.all Z.K).length ≤ 2 + (j + 1) from ⟨HV.out.1.more (by omega) (by omega), HJ.out.1, by have := HJ.out.2.1; omega, by have := HJ.out.2.2; omega⟩)
      go_wp2_with fail
      go_roundw
      case rel => exact ⟨j + 1, 0, cc, A, _, _, _, _, _, by omega, by omega, by have := HR.out; go_num, rfl, H5⟩
      case measure => have := HR.out; simp [intOf]; omega
    · have HCN := Lib.hid hcn
      clear hcn
      have hd3 : dd = 0 ∨ dd = 1 ∨ 2 ≤ dd := by omega
      go_upto_block 2 with fail
      go_cut [9, 13, 14, 15, 16, 17, 18, 19, 20, 21, 22, 24, 25, 27] (fun v9 _ _ _ _ _ _ _ _ _ _ _ _ _ wx => ∃ (t2 cc2 : Nat) (A2 : Option Addr) (Z2 : St) (d2 : Dc) (Q2 D2 : Nat → Prop) (G2 : List M.R), t2 ≤ j + 1 ∧ v9 = .slice A2 t2 cc2 ∧ Hid (Ps w wx s a b c N (100 * (j + 1)) (j + 1) t2 cc2 A2 Z2 Z2 d2 g Q2 D2 G2 ∧ Inv N Z2 G2 ∧ Z2.u ≤ 10 * (j + 1) ∧ Z2.l.length + (M.all Z2.K).length ≤ 2 + (j + 1)))
      case first =>
       rcases hd3 with hd | hd | hd
       · subst hd
         have a1 := HV.out.2.1.c1
         have a2 := HV.out.2.1.c2
         have a3 := HV.out.2.1.c3
         simp only [Nat.zero_add] at a1 a2 a3
         have hfit := HV.out.1.chk.st.al.fit
         have RG := rcget10 (k := 100 * j) HV.out.1.dcb.doc (by have := HR.out; omega) HJ.out.1 HN.out.2.1 HN.out.2.2 hfit (by have := HR.out; omega) (by have := HJ.out.2.2; have := HR.out; omega) (by have := HJ.out.2.1; have := HR.out; omega) p kd ow HX.out.2.2.2.1
         obtain ⟨Z4, hZ4⟩ : ∃ x, x = Z.gt N p kd ow := ⟨_, rfl⟩
         obtain ⟨p4, hp4⟩ : ∃ x, x = gtP N Z p kd := ⟨_, rfl⟩
         obtain ⟨n4, hn4⟩ : ∃ x, x = gtN N Z p kd := ⟨_, rfl⟩
         obtain ⟨e4, he4⟩ : ∃ x, x = gtE N Z p kd := ⟨_, rfl⟩
         have HG := HJ.out.1.gt HN.out.2.2 p kd ow HX.out.2.2.2.1
         have hlen := len_get (P := N) HJ.out.1.good p kd ow
         rw [← hZ4, ← hp4, ← hn4, ← he4] at RG HG
         rw [← hZ4] at hlen
         have RG := Lib.hid RG
         have HG := Lib.hid (And.intro HG hlen)
         have HE := Lib.hid (And.intro hZ4 (And.intro hp4 (And.intro hn4 he4)))
         clear hfit hZ4 hp4 hn4 he4 hlen
         have c0 := HV.out.1.dcb.bx.cs 0 _ rfl
         have c1 := HV.out.1.dcb.bx.cs 1 _ rfl
         have c2 := HV.out.1.dcb.bx.cs 2 _ rfl
         have c3 := HV.out.1.dcb.bx.cs 3 _ rfl
         have c4 := HV.out.1.dcb.bx.cs 4 _ rfl
         have c5 := HV.out.1.dcb.bx.cs 5 _ rfl
         have c6 := HV.out.1.dcb.bx.cs 6 _ rfl
         go_wp2_with fail
         refine RG.out.mono ?_
         rintro e w4 ⟨d4, rfl, D4, b4, mv4⟩
         go_upto_region 21 with fail
         clear a0 a1 a2 a3 c0 c1 c2 c3 c4 c5 c6
         obtain ⟨v5, hv5⟩ : ∃ x, x = w4.alloc (.cells #[.int .i64 (N : Int), .slice d4.A d4.n d4.c, .int .i64 (Z4.u : Int), .int .i64 (N : Int), .slice d4.Al d4.z d4.cl, .int .i64 Z4.T, .slice d4.Ak d4.zk d4.ck] 34) := ⟨_, rfl⟩
         obtain ⟨g5, hg5⟩ : ∃ g, g = w4.heap.size := ⟨_, rfl⟩
         have b5 := (Below.refl w4.heap.size w4).alloc (Nat.le_refl _) (.cells (dcs N Z4 d4).toArray 34)
         have x5 := Bxn.new w4 34 (dcs N Z4 d4)
         rw [show w4.alloc (.cells (dcs N Z4 d4).toArray 34) = v5 from hv5.symm] at b5 x5
         rw [← hg5] at x5
         rw [← hv5, ← hg5]
         have y5 := (HV.out.1.dcb.bx.below (by simp) b4).below (by simp) b5
         have u0 := x5.cs 0 _ rfl
         have u1 := x5.cs 1 _ rfl
         have u2 := x5.cs 2 _ rfl
         have u3 := x5.cs 3 _ rfl
         have u4 := x5.cs 4 _ rfl
         have u5 := x5.cs 5 _ rfl
         have u6 := x5.cs 6 _ rfl
         have z0 := y5.fz 0
         have z1 := y5.fz 1
         have z2 := y5.fz 2
         have z3 := y5.fz 3
         have z4 := y5.fz 4
         have z5 := y5.fz 5
         have z6 := y5.fz 6
         have c0 := y5.cs 0 _ rfl
         have c1 := y5.cs 1 _ rfl
         have c2 := y5.cs 2 _ rfl
         have c3 := y5.cs 3 _ rfl
         have c4 := y5.cs 4 _ rfl
         have c5 := y5.cs 5 _ rfl
         have c6 := y5.cs 6 _ rfl
         have q5 := HV.out.1.ans D4 b4 mv4 b5
         have HQ := Lib.hid q5
         clear hv5 hg5 b5 x5 y5 D4 b4 mv4 q5
         go_upto_region 22 with fail
         have H6 := HQ.out
         generalize World.setCell _ ⟨g, 6, none⟩ (.slice d4.Ak d4.zk d4.ck) = w6 at *
         have H6 := Lib.hid (show Ps w w6 s a b c N (100 * j) (j + 1) t cc A Z Z4 d4 g Q (fun x => D x ∨ x = y) G ∧ IsAct w6 y 0 ⟨0, p, kd, ow, ix⟩ from ⟨H6.1, HV.out.2.1.kept H6.2 HV.out.2.2.2.1⟩)
         clear HQ u0 u1 u2 u3 u4 u5 u6 z0 z1 z2 z3 z4 z5 z6 c0 c1 c2 c3 c4 c5 c6
         have a1 := H6.out.2.c1
         have a2 := H6.out.2.c2
         have a3 := H6.out.2.c3
         simp only [Nat.zero_add] at a1 a2 a3
         have CG := cgetA_any H6.out.1.chk (by have := HR.out; omega) (by have := HJ.out.2.1; have := HR.out; omega) HJ.out.1 p kd ow HX.out.2.2.2.1
         rw [← HE.out.1, ← HE.out.2.1, ← HE.out.2.2.1, ← HE.out.2.2.2] at CG
         have CG := Lib.hid CG
         go_wp2_with fail
         refine CG.out.mono ?_
         rintro e w7 ⟨rfl, h7, k7⟩
         have H7 := Lib.hid (show Ps w w7 s a b c N (100 * j + 30) (j + 1) t cc A Z4 Z4 d4 g (Wid Q w6 w7) (fun x => D x ∨ x = y) G ∧ IsAct w7 y 0 ⟨0, p, kd, ow, ix⟩ from ⟨H6.out.1.call h7 k7, H6.out.2.kept k7 HV.out.2.2.1⟩)
         clear h7 k7 a1 a2 a3 H6 CG RG
         generalize Wid Q w6 w7 = Q7 at *
         have a1 := H7.out.2.c1
         have a2 := H7.out.2.c2
         have a3 := H7.out.2.c3
         simp only [Nat.zero_add] at a1 a2 a3
         go_wp2_with fail
         refine (cget_none w7 p kd (ow : Int)).mono ?_
         rintro e w8 ⟨rfl, b8⟩
         have H8 := Lib.hid (show Ps w w8 s a b c N (100 * j + 30) (j + 1) t cc A Z4 Z4 d4 g Q7 (fun x => D x ∨ x = y) G from H7.out.1.below b8)
         clear b8 a1 a2 a3 H7
         rcases HG.out.1 with ⟨hE, hI, _, _, _, hu⟩ | ⟨hE, _, _, hI, hu⟩
         ·have HI4 := Lib.hid (And.intro hI hu)
          subst hE
          clear hI hu
          have hb5 : Below w8.heap.size w8 (w8.alloc (.cells #[.int .i64 p4] 3)) := (Below.refl _ _).alloc (Nat.le_refl _) _
          have H9 := Lib.hid (H8.out.below hb5)
          have OWN := Lib.hid H9.out.lst.row
          have SZ := Lib.hid H9.out.chk.bel.size
          have ht5 : t ≤ 50 := by have := HR.out; omega
          obtain ⟨i3, hi, hi0, hi1, hi2⟩ := infoI
          have HI3 := Lib.hid (And.intro hi (And.intro hi0 (And.intro hi1 hi2)))
          clear hb5 hi hi0 hi1 hi2
          go_wp2_with (at_builtin; refine wpList_append_lies _ rfl _ _ 36 rfl w.heap.size 3 i3 (.int .i64 0) 1 8 Tryz.underlying36 HI3.out.1 HI3.out.2.1 HI3.out.2.2.1 HI3.out.2.2.2 rfl (by decide) (.slice A t cc) t (pgs G) rfl OWN.out ⟨w8.heap.size, 0, none⟩ 1 1 (ints10 [p4]) rfl rfl (num_cell10 w8 p4) (ints10_one _) (by omega) (by unfold maxLen; omega) (by omega) SZ.out _ rfl ?_; intro g1 c1 w9 hrow hgr hat hlt5; (have HS := Lib.hid (H9.out.app (r := ⟨p4, n4⟩) hrow hgr hat hlt5)); clear hrow hgr hat hlt5)
          go_meet
          exact ⟨t + 1, c1, _, _, _, _, _, _, by have := HR.out; omega, rfl, HS.out.more (by omega) (by omega), HI4.out.1.perm (List.perm_append_singleton _ _).symm, by have := HI4.out.2; have := HJ.out.2.1; omega, by have := HG.out.2; have := HJ.out.2.2; omega⟩
         ·have H9 := Lib.hid (show Ps w w8 s a b c N (100 * (j + 1)) (j + 1) t cc A Z4 Z4 d4 g Q7 (fun x => D x ∨ x = y) G ∧ Inv N Z4 G ∧ Z4.u ≤ 10 * (j + 1) ∧ Z4.l.length + (M.all Z4.K).length ≤ 2 + (j + 1) from ⟨H8.out.more (by omega) (by omega), hI, by have := HJ.out.2.1; omega, by have := HG.out.2; have := HJ.out.2.2; omega⟩)
          have t0 : (e4 == 0) = false := by simp; omega
          clear hE hI hu
          go_wp2_with fail
          go_meet
          exact ⟨t, cc, _, _, _, _, _, _, by have := HR.out; omega, rfl, H9⟩
       · subst hd
         have ht0 : 0 < t := by have := HCN.out; omega
         obtain ⟨q, hq⟩ : ∃ q, q = ix % t := ⟨_, rfl⟩
         have hqt : q < t := by rw [hq]; exact Nat.mod_lt _ ht0
         have hrem : (ix : Int).tmod (t : Int) = (q : Int) := by rw [hq]; rfl
         have hrem2 : (ix : Int) % (t : Int) = (q : Int) := by rw [hq]; rfl
         have hz : ((t : Int) == 0) = false := by simp; omega
         have hix : ix < 256 := HX.out.2.2.2.2
         have hql : q < G.length := by have := htl.out; omega
         obtain ⟨bg, hA, hcell⟩ := Lst.cell (ps := G.map (·.p)) HV.out.1.lst (j := q) (by simpa using hql)
         subst hA
         have hrr : (G.map (·.p))[q]'(by simpa using hql) = G[q].p := by simp
         obtain ⟨rp, hrp⟩ : ∃ x, x = G[q].p := ⟨_, rfl⟩
         obtain ⟨rn, hrn⟩ : ∃ x, x = G[q].n := ⟨_, rfl⟩
         have HIV := Lib.hid (show Inv N Z (⟨rp, rn⟩ :: (G.take q ++ G.drop (q + 1))) by rw [hrp, hrn]; exact HJ.out.1.perm (perm_at10 q hql))
         have HCL := Lib.hid (show ∀ W cz Q s, Lst W 3 1 w.heap.size (some ⟨bg, 0, none⟩) t cz (pgs G) Q s → W.cell? ⟨bg, q, none⟩ = some (.int .i64 rp) from fun W cz Q s h => by
          obtain ⟨g', e, hc⟩ := Lst.cell (ps := G.map (·.p)) h (j := q) (by simpa using hql)
          cases e
          rw [hc, hrr, hrp])
         rw [hrr, ← hrp] at hcell
         have a4 := HV.out.2.1.c4
         simp only [Nat.zero_add] at a4
         have HQ := Lib.hid (show q < t ∧ t ≤ 50 ∧ t = G.length from ⟨hqt, by have := HR.out; omega, htl.out⟩)
         have hq51 : q < t ∧ t ≤ 50 := ⟨HQ.out.1, HQ.out.2.1⟩
         have hfit := HV.out.1.chk.st.al.fit
         have RG := fun W hW => rcput10 (w := W) (d := d) (m := j) (k := 100 * j) hW (by have := HR.out; omega) HIV.out HN.out.2.1 HN.out.2.2 hfit (by have := HR.out; omega) (by have := HJ.out.2.2; have := HR.out; omega) (by have := HJ.out.2.1; have := HR.out; omega)
         obtain ⟨Z4, hZ4⟩ : ∃ x, x = Z.put N rp rn := ⟨_, rfl⟩
         have hinv := HIV.out.put.1
         have hlen := len_put (P := N) (Z := Z) rp rn
         rw [← hZ4] at RG hlen hinv
         have RG := Lib.hid RG
         have HG := Lib.hid (show Inv N Z4 (G.take q ++ G.drop (q + 1)) ∧ Z4.u = Z.u + 3 ∧ Z4.l.length + (M.all Z4.K).length ≤ Z.l.length + (M.all Z.K).length + 1 from ⟨hinv, by rw [hZ4]; rfl, hlen⟩)
         have HE := Lib.hid hZ4
         clear hfit hZ4 hlen hinv hrr hrp hrn hq hqt hql
         go_upto_region 31 with fail
         clear a0 a4 hrem hrem2 hz hix
         have HC1 := Lib.hid (show ∀ W, Below wa.heap.size wa W → W.cell? ⟨g, 0, none⟩ = some (.int .i64 (N : Int)) ∧ W.cell? ⟨g, 1, none⟩ = some (.slice d.A d.n d.c) ∧ W.cell? ⟨g, 2, none⟩ = some (.int .i64 (Z.u : Int)) ∧ W.cell? ⟨g, 3, none⟩ = some (.int .i64 (N : Int)) ∧ W.cell? ⟨g, 4, none⟩ = some (.slice d.Al d.z d.cl) ∧ W.cell? ⟨g, 5, none⟩ = some (.int .i64 Z.T) ∧ W.cell? ⟨g, 6, none⟩ = some (.slice d.Ak d.zk d.ck) ∧ W.cell? ⟨bg, q, none⟩ = some (.int .i64 rp) from fun W hW => by
          have h := HV.out.1.dcb.bx.below (by simp) hW
          exact ⟨h.cs 0 _ rfl, h.cs 1 _ rfl, h.cs 2 _ rfl, h.cs 3 _ rfl, h.cs 4 _ rfl, h.cs 5 _ rfl, h.cs 6 _ rfl, HCL.out W _ _ _ (HV.out.1.lst.below hW)⟩)
         clear hcell
         go_cut [23, 24] (fun v23 v24 wx => ∃ (gx : Nat) (d4 : Dc), v23 = .pointer (some ⟨gx, 0, none⟩) ∧ v24 = .int .i64 0 ∧ Hid (Doc wx Z4 d4 (j + 1) ∧ Below wa.heap.size wa wx ∧ (∀ x, x < wa.heap.size → Dof Z d x → Dof Z4 d4 x) ∧ Bxn wx gx (dcs N Z4 d4)))
         case first =>
          refine wp_region_noPanic ?_
          refine wp_region_held_drew (S := fun W => W.cell? ⟨g, 0, none⟩ = some (.int .i64 (N : Int)) ∧ W.cell? ⟨g, 1, none⟩ = some (.slice d.A d.n d.c) ∧ W.cell? ⟨g, 2, none⟩ = some (.int .i64 (Z.u : Int)) ∧ W.cell? ⟨g, 3, none⟩ = some (.int .i64 (N : Int)) ∧ W.cell? ⟨g, 4, none⟩ = some (.slice d.Al d.z d.cl) ∧ W.cell? ⟨g, 5, none⟩ = some (.int .i64 Z.T) ∧ W.cell? ⟨g, 6, none⟩ = some (.slice d.Ak d.zk d.ck) ∧ W.cell? ⟨bg, q, none⟩ = some (.int .i64 rp)) (by kernel_rfl) (HC1.out _ (Below.refl _ _).drew) (fun hHeld => ?_)
          refine tkC 0 (some 144) (Op.load 34 (Operand.tmp 7)) 34 (v := ?_) rfl (by decide +kernel) (by kernel_rfl) ?_ ‹_› ?_
          rotate_left
          ·(intro w h; (try dsimp only at h); go_simp) <;> with_reducible rfl
          (try simp only [Act.put, yI, yZ, yS])
          refine tkC 1 (some 145) (Op.move (Operand.tmp 9)) 36 (v := ?_) rfl (by decide +kernel) (by kernel_rfl) ?_ ‹_› ?_
          rotate_left
          ·(intro w h; (try dsimp only at h); go_simp) <;> with_reducible rfl
          (try simp only [Act.put, yI, yZ, yS])
          refine tkC 2 (some 146) (Op.move (Operand.tmp 22)) 3 (v := ?_) rfl (by decide +kernel) (by kernel_rfl) ?_ ‹_› ?_
          rotate_left
          ·(intro w h; (try dsimp only at h); go_simp) <;> with_reducible rfl
          (try simp only [Act.put, yI, yZ, yS])
          refine tkC 3 (some 147) (Op.indexAddr 36 (Operand.tmp 145) (Operand.tmp 146)) 0 (v := ?_) rfl (by decide +kernel) (by kernel_rfl) ?_ ‹_› ?_
          rotate_left
          ·(intro w h; (try dsimp only at h); go_simp) <;> with_reducible rfl
          (try simp only [Act.put, yI, yZ, yS])
          refine tkC 4 (some 148) (Op.load 3 (Operand.tmp 147)) 3 (v := ?_) rfl (by decide +kernel) (by kernel_rfl) ?_ ‹_› ?_
          rotate_left
          ·(intro w h; (try dsimp only at h); go_simp) <;> with_reducible rfl
          (try simp only [Act.put, yI, yZ, yS])
          refine rdA (rs := [5, 9]) (by decide +kernel) ?_ rfl
          refine rcA (some 149) (Op.call { callee := Callee.value (Operand.func 9), args := #[Operand.tmp 144, Operand.tmp 148], argTypes := #[34, 3] }) 45 rfl (by kernel_rfl) (fun K hK => ?_) ?_
          ·go_simp
           refine (RG.out wa.drew (HV.out.1.dcb.doc.below (Below.refl _ _).drew)).mono ?_
           rintro e w4 ⟨d4, rfl, D4, b4, mv4⟩
           have H4 := Lib.hid (show Doc w4 Z4 d4 (j + 1) ∧ Below wa.heap.size wa w4 ∧ (∀ x, x < wa.heap.size → Dof Z d x → Dof Z4 d4 x) from ⟨D4, below_call (Below.refl _ _).drew b4, mv4⟩)
           clear D4 b4 mv4
           go_wp2_with fail
           refine hK.out _ _ ?_ (fun hHeld => ?_)
           · exact HC1.out _ H4.out.2.1
           clear hK K
           (try simp only [Act.put, yI, yZ, yS])
           refine tkC 6 (some 143) (Op.move (Operand.tmp 149)) 45 (v := ?_) rfl (by decide +kernel) (by kernel_rfl) ?_ ‹_› ?_
           rotate_left
           ·(intro w h; (try dsimp only at h); go_simp) <;> with_reducible rfl
           (try simp only [Act.put, yI, yZ, yS])
           refine tkC 7 (some 150) (Op.extract (Operand.tmp 143) 0) 34 (v := ?_) rfl (by decide +kernel) (by kernel_rfl) ?_ ‹_› ?_
           rotate_left
           ·(intro w h; (try dsimp only at h); go_simp) <;> with_reducible rfl
           (try simp only [Act.put, yI, yZ, yS])
           refine tkC 8 (some 151) (Op.extract (Operand.tmp 143) 1) 40 (v := ?_) rfl (by decide +kernel) (by kernel_rfl) ?_ ‹_› ?_
           rotate_left
           ·(intro w h; (try dsimp only at h); go_simp) <;> with_reducible rfl
           (try simp only [Act.put, yI, yZ, yS])
           refine rdA (rs := [9]) (by decide +kernel) ?_ rfl
           refine rcA (some 23) (Op.alloc 34) 0 rfl (by kernel_rfl) (fun K hK => ?_) AllReadyH.nil
           go_simp
           obtain ⟨v5, hv5⟩ : ∃ x, x = w4.alloc (.cells #[.int .i64 0, .slice none 0 0, .int .i64 0, .int .i64 0, .slice none 0 0, .int .i64 0, .slice none 0 0] 34) := ⟨_, rfl⟩
           obtain ⟨g5, hg5⟩ : ∃ g, g = w4.heap.size := ⟨_, rfl⟩
           have V5 := Lib.hid (show Below wa.heap.size wa v5 ∧ Bxn v5 g5 d0s ∧ Doc v5 Z4 d4 (j + 1) ∧ wa.heap.size ≤ g5 ∧ Dof Z4 d4 g5 from by
             have b := (Below.refl w4.heap.size w4).alloc (Nat.le_refl _) (.cells d0s.toArray 34)
             rw [hv5, hg5]
             exact ⟨below_call H4.out.2.1 b, Bxn.new w4 34 d0s, H4.out.1.below b, H4.out.2.1.size, H4.out.1.fresh (Nat.le_refl _)⟩)
           rw [← hv5, ← hg5]
           have z0 := V5.out.2.1.fz 0
           have z1 := V5.out.2.1.fz 1
           have z2 := V5.out.2.1.fz 2
           have z3 := V5.out.2.1.fz 3
           have z4 := V5.out.2.1.fz 4
           have z5 := V5.out.2.1.fz 5
           have z6 := V5.out.2.1.fz 6
           have r0 := V5.out.2.1.cs 0 _ rfl
           have r1 := V5.out.2.1.cs 1 _ rfl
           have r2 := V5.out.2.1.cs 2 _ rfl
           have r3 := V5.out.2.1.cs 3 _ rfl
           have r4 := V5.out.2.1.cs 4 _ rfl
           have r5 := V5.out.2.1.cs 5 _ rfl
           have r6 := V5.out.2.1.cs 6 _ rfl
           clear hv5 hg5
           refine hK.out _ _ ?_ (fun hHeld => ?_)
           · exact HC1.out _ V5.out.1
           clear hK K
           (try simp only [Act.put, yI, yZ, yS])
           refine rdA (rs := [10]) (by decide +kernel) ?_ rfl
           refine rcA none (Op.store 34 (Operand.tmp 23) (Operand.tmp 150)) 0 rfl (by kernel_rfl) (fun K hK => ?_) AllReadyH.nil
           go_simp
           have k7 := kept_set7 v5 g5 (.int .i64 (N : Int)) (.slice d4.A d4.n d4.c) (.int .i64 (Z4.u : Int)) (.int .i64 (N : Int)) (.slice d4.Al d4.z d4.cl) (.int .i64 Z4.T) (.slice d4.Ak d4.zk d4.ck)
           have H7 := Lib.hid (And.intro (V5.out.2.2.1.kept' k7 (fun x e => by rw [e]; exact V5.out.2.2.2.2)) (And.intro (below_kept V5.out.1 k7 V5.out.2.2.2.1) (V5.out.2.1.set7 (.int .i64 (N : Int)) (.slice d4.A d4.n d4.c) (.int .i64 (Z4.u : Int)) (.int .i64 (N : Int)) (.slice d4.Al d4.z d4.cl) (.int .i64 Z4.T) (.slice d4.Ak d4.zk d4.ck))))
           generalize World.setCell _ ⟨g5, 6, none⟩ (.slice d4.Ak d4.zk d4.ck) = w7 at *
           clear k7 z0 z1 z2 z3 z4 z5 z6 r0 r1 r2 r3 r4 r5 r6
           refine hK.out _ _ ?_ (fun hHeld => ?_)
           · exact HC1.out _ H7.out.2.1
           clear hK K
           (try simp only [Act.put, yI, yZ, yS])
           refine tkC 11 (some 24) (Op.assign (Operand.tmp 151)) 40 (v := ?_) rfl (by decide +kernel) (by kernel_rfl) ?_ ‹_› ?_
           rotate_left
           ·(intro w h; (try dsimp only at h); go_simp) <;> with_reducible rfl
           (try simp only [Act.put, yI, yZ, yS])
           refine wpAnyH_done (by kernel_rfl) ?_ _
           refine NoPanic.normal ?_
           go_wp2_with fail
           go_meet
           exact ⟨g5, d4, rfl, rfl, Lib.hid ⟨H7.out.1, H7.out.2.1, H4.out.2.2, H7.out.2.2⟩⟩
          refine rcA (some 23) (Op.alloc 34) 0 rfl (by kernel_rfl) (fun K hK => ?_) ?_
          ·go_simp
           obtain ⟨v5, hv5⟩ : ∃ x, x = (wa.alloc (.cells #[.int .i64 0, .slice none 0 0, .int .i64 0, .int .i64 0, .slice none 0 0, .int .i64 0, .slice none 0 0] 34)).drew := ⟨_, rfl⟩
           obtain ⟨g5, hg5⟩ : ∃ g, g = wa.heap.size := ⟨_, rfl⟩
           have V5 := Lib.hid (show Below wa.heap.size wa v5 ∧ Bxn v5 g5 d0s ∧ Doc v5 Z d j ∧ wa.heap.size ≤ g5 ∧ Dof Z d g5 ∧ g5 < v5.heap.size from by
             have b := (Below.refl wa.heap.size wa).alloc (Nat.le_refl _) (.cells d0s.toArray 34)
             have x := Bxn.new wa 34 d0s
             have xl := x.lt (by simp)
             rw [hv5, hg5]
             exact ⟨b.drew, x.below (by simp) (Below.refl _ _).drew, (HV.out.1.dcb.doc.below b).below (Below.refl _ _).drew, Nat.le_refl _, HV.out.1.dcb.doc.fresh (Nat.le_refl _), xl⟩)
           rw [← hv5, ← hg5]
           clear hv5 hg5
           refine hK.out _ _ ?_ (fun hHeld => ?_)
           · exact HC1.out _ V5.out.1
           clear hK K
           (try simp only [Act.put, yI, yZ, yS])
           refine rdA (rs := [5]) (by decide +kernel) ?_ rfl
           refine rcA (some 149) (Op.call { callee := Callee.value (Operand.func 9), args := #[Operand.tmp 144, Operand.tmp 148], argTypes := #[34, 3] }) 45 rfl (by kernel_rfl) (fun K hK => ?_) AllReadyH.nil
           go_simp
           refine (RG.out v5 V5.out.2.2.1).mono ?_
           rintro e w4 ⟨d4, rfl, D4, b4, mv4⟩
           have H4 := Lib.hid (show Doc w4 Z4 d4 (j + 1) ∧ Below wa.heap.size wa w4 ∧ (∀ x, x < wa.heap.size → Dof Z d x → Dof Z4 d4 x) ∧ Bxn w4 g5 d0s ∧ Dof Z4 d4 g5 from ⟨D4, below_call V5.out.1 b4, fun x hx => mv4 x (Nat.lt_of_lt_of_le hx V5.out.1.size), V5.out.2.1.below (by simp) b4, mv4 g5 V5.out.2.2.2.2.2 V5.out.2.2.2.2.1⟩)
           have z0 := H4.out.2.2.2.1.fz 0
           have z1 := H4.out.2.2.2.1.fz 1
           have z2 := H4.out.2.2.2.1.fz 2
           have z3 := H4.out.2.2.2.1.fz 3
           have z4 := H4.out.2.2.2.1.fz 4
           have z5 := H4.out.2.2.2.1.fz 5
           have z6 := H4.out.2.2.2.1.fz 6
           have r0 := H4.out.2.2.2.1.cs 0 _ rfl
           have r1 := H4.out.2.2.2.1.cs 1 _ rfl
           have r2 := H4.out.2.2.2.1.cs 2 _ rfl
           have r3 := H4.out.2.2.2.1.cs 3 _ rfl
           have r4 := H4.out.2.2.2.1.cs 4 _ rfl
           have r5 := H4.out.2.2.2.1.cs 5 _ rfl
           have r6 := H4.out.2.2.2.1.cs 6 _ rfl
           clear D4 b4 mv4
           go_wp2_with fail
           refine hK.out _ _ ?_ (fun hHeld => ?_)
           · exact HC1.out _ H4.out.2.1
           clear hK K
           (try simp only [Act.put, yI, yZ, yS])
           refine tkC 6 (some 143) (Op.move (Operand.tmp 149)) 45 (v := ?_) rfl (by decide +kernel) (by kernel_rfl) ?_ ‹_› ?_
           rotate_left
           ·(intro w h; (try dsimp only at h); go_simp) <;> with_reducible rfl
           (try simp only [Act.put, yI, yZ, yS])
           refine tkC 7 (some 150) (Op.extract (Operand.tmp 143) 0) 34 (v := ?_) rfl (by decide +kernel) (by kernel_rfl) ?_ ‹_› ?_
           rotate_left
           ·(intro w h; (try dsimp only at h); go_simp) <;> with_reducible rfl
           (try simp only [Act.put, yI, yZ, yS])
           refine tkC 8 (some 151) (Op.extract (Operand.tmp 143) 1) 40 (v := ?_) rfl (by decide +kernel) (by kernel_rfl) ?_ ‹_› ?_
           rotate_left
           ·(intro w h; (try dsimp only at h); go_simp) <;> with_reducible rfl
           (try simp only [Act.put, yI, yZ, yS])
           refine rdA (rs := [10]) (by decide +kernel) ?_ rfl
           refine rcA none (Op.store 34 (Operand.tmp 23) (Operand.tmp 150)) 0 rfl (by kernel_rfl) (fun K hK => ?_) AllReadyH.nil
           go_simp
           have k7 := kept_set7 w4 g5 (.int .i64 (N : Int)) (.slice d4.A d4.n d4.c) (.int .i64 (Z4.u : Int)) (.int .i64 (N : Int)) (.slice d4.Al d4.z d4.cl) (.int .i64 Z4.T) (.slice d4.Ak d4.zk d4.ck)
           have H7 := Lib.hid (And.intro (H4.out.1.kept' k7 (fun x e => by rw [e]; exact H4.out.2.2.2.2)) (And.intro (below_kept H4.out.2.1 k7 V5.out.2.2.2.1) (H4.out.2.2.2.1.set7 (.int .i64 (N : Int)) (.slice d4.A d4.n d4.c) (.int .i64 (Z4.u : Int)) (.int .i64 (N : Int)) (.slice d4.Al d4.z d4.cl) (.int .i64 Z4.T) (.slice d4.Ak d4.zk d4.ck))))
           generalize World.setCell _ ⟨g5, 6, none⟩ (.slice d4.Ak d4.zk d4.ck) = w7 at *
           clear k7 z0 z1 z2 z3 z4 z5 z6 r0 r1 r2 r3 r4 r5 r6
           refine hK.out _ _ ?_ (fun hHeld => ?_)
           · exact HC1.out _ H7.out.2.1
           clear hK K
           (try simp only [Act.put, yI, yZ, yS])
           refine tkC 11 (some 24) (Op.assign (Operand.tmp 151)) 40 (v := ?_) rfl (by decide +kernel) (by kernel_rfl) ?_ ‹_› ?_
           rotate_left
           ·(intro w h; (try dsimp only at h); go_simp) <;> with_reducible rfl
           (try simp only [Act.put, yI, yZ, yS])
           refine wpAnyH_done (by kernel_rfl) ?_ _
           refine NoPanic.normal ?_
           go_wp2_with fail
           go_meet
           exact ⟨g5, d4, rfl, rfl, Lib.hid ⟨H7.out.1, H7.out.2.1, H4.out.2.2.1, H7.out.2.2⟩⟩
          exact AllReadyH.nil
         case rest =>
          obtain ⟨gx, d4, rfl, rfl, HW4⟩ := hcut
          generalize wc = w4 at *
          have y5 := HV.out.1.dcb.bx.below (by simp) HW4.out.2.1
          have u0 := HW4.out.2.2.2.cs 0 _ rfl
          have u1 := HW4.out.2.2.2.cs 1 _ rfl
          have u2 := HW4.out.2.2.2.cs 2 _ rfl
          have u3 := HW4.out.2.2.2.cs 3 _ rfl
          have u4 := HW4.out.2.2.2.cs 4 _ rfl
          have u5 := HW4.out.2.2.2.cs 5 _ rfl
          have u6 := HW4.out.2.2.2.cs 6 _ rfl
          have z0 := y5.fz 0
          have z1 := y5.fz 1
          have z2 := y5.fz 2
          have z3 := y5.fz 3
          have z4 := y5.fz 4
          have z5 := y5.fz 5
          have z6 := y5.fz 6
          have c0 := y5.cs 0 _ rfl
          have c1 := y5.cs 1 _ rfl
          have c2 := y5.cs 2 _ rfl
          have c3 := y5.cs 3 _ rfl
          have c4 := y5.cs 4 _ rfl
          have c5 := y5.cs 5 _ rfl
          have c6 := y5.cs 6 _ rfl
          have HQ5 := Lib.hid (HV.out.1.ans HW4.out.1 HW4.out.2.1 HW4.out.2.2.1 (Below.refl _ w4))
          clear y5
          go_upto_region 33 with fail
          have H6 := HQ5.out
          generalize World.setCell _ ⟨g, 6, none⟩ (.slice d4.Ak d4.zk d4.ck) = w6 at *
          have H6 := Lib.hid H6.1
          clear HQ5 HW4 u0 u1 u2 u3 u4 u5 u6 z0 z1 z2 z3 z4 z5 z6 c0 c1 c2 c3 c4 c5 c6
          have x6 := HCL.out w6 _ _ _ H6.out.lst
          have CP := cput_any H6.out.chk (by have := HR.out; omega) (by have := HJ.out.2.1; have := HR.out; omega) rp rn HIV.out
          rw [← HE.out] at CP
          have CP := Lib.hid CP
          go_wp2_with fail
          refine CP.out.mono ?_
          rintro e w7 ⟨rfl, h7, k7⟩
          have H7 := Lib.hid (H6.out.call h7 k7)
          clear h7 k7 H6 CP RG x6
          generalize Wid Q w6 w7 = Q7 at *
          have x7 := HCL.out w7 _ _ _ H7.out.lst
          go_wp2_with fail
          refine (cput_none w7 rp).mono ?_
          rintro e w8 ⟨rfl, b8⟩
          have H8 := Lib.hid (H7.out.below b8)
          clear b8 H7 x7
          have hcap : t ≤ cc := (row_cap H8.out.lst.row).elim id (fun e => by omega)
          have ap1 := fun W => icut10_to bg 0 t cc q (by omega) W
          obtain ⟨A3, hA3, hA3e⟩ := icut10_from bg 0 t cc (q + 1) (by omega) hcap
          have ap2 : ∀ W, (Instr.slice 36 (.slice (some ⟨bg, 0, none⟩) t cc) (some (.int .i64 ((q : Int) + 1))) none none).run Tryz.prog W = .ok (.slice A3 (t - (q + 1)) (cc - (q + 1))) W := fun W => hA3 W
          have hN8 := NumsAt.of (ps := G.map (·.p)) H8.out.lst
          have HM := Lib.hid (show q = ((G.map (·.p)).take q).length ∧ t - (q + 1) = ((G.map (·.p)).drop (q + 1)).length ∧ q ≤ 1000000 ∧ q + (t - (q + 1)) ≤ 1000000 ∧ q + (t - (q + 1)) ≤ j + 1 from ⟨by rw [List.length_take, List.length_map]; have := HQ.out; omega, by rw [List.length_drop, List.length_map]; have := HQ.out; omega, by omega, by omega, by have := HR.out; omega⟩)
          have HRT := Lib.hid (show NumsAt w8 (some ⟨bg, 0, none⟩) ((G.map (·.p)).take q) from hN8.take q)
          have HRD := Lib.hid (show NumsAt w8 A3 ((G.map (·.p)).drop (q + 1)) from fun hl => by
            have := hN8.drop (q + 1)
            rw [hA3e (by simp at hl; have := HQ.out; omega)]
            exact this hl)
          clear hA3 hA3e hN8 hcap
          go_upto_region 37 with (at_builtin; refine wpList_app_new rfl _ _ rfl w8 rfl (some ⟨bg, 0, none⟩) q cc ((G.map (·.p)).take q) rfl HM.out.1 HRT.out HM.out.2.2.1 ?_; intro A6 c6 w9 hrow hb9; (have H9 := Lib.hid (And.intro hrow hb9)); clear hrow hb9)
          have HRD9 := Lib.hid (HRD.out.below H9.out.2)
          have SZ9 := Lib.hid H9.out.2.size
          go_wp2_with (at_builtin; refine wpList_app_ints rfl _ _ rfl w9 w8.heap.size A6 q c6 ((G.map (·.p)).take q) rfl H9.out.1 A3 (t - (q + 1)) (cc - (q + 1)) ((G.map (·.p)).drop (q + 1)) rfl HM.out.2.1 HRD9.out HM.out.2.2.2.1 SZ9.out ?_; intro A7 c7 w10 hrow hgr; (have H10 := Lib.hid (And.intro hrow (H9.out.2.trans (below_apI H9.out.1 hgr SZ9.out)))); clear hrow hgr)
          go_meet
          exact ⟨q + (t - (q + 1)), c7, _, _, _, _, _, G.take q ++ G.drop (q + 1), HM.out.2.2.2.2, rfl, Lib.hid ⟨(H8.out.more (by omega) (by omega)).swap H10.out.2 (by rw [pgs_put]; exact H10.out.1), HG.out.1, by have := HG.out.2.1; have := HJ.out.2.1; omega, by have := HG.out.2.2; have := HJ.out.2.2; omega⟩⟩
       · have t0 : ((dd : Int) == 0) = false := by simp; omega
         have t1 : ((dd : Int) == 1) = false := by simp; omega
         have hfit := HV.out.1.chk.st.al.fit
         have RG := rctrim10 (k := 100 * j) HV.out.1.dcb.doc HN.out.2.1 HN.out.2.2 HJ.out.1.good hfit (by have := HR.out; omega) (by have := HJ.out.2.2; have := HR.out; omega) (fun r hr => HJ.out.1.pt.inn (List.mem_append.2 (.inl hr)))
         obtain ⟨Z4, hZ4⟩ : ∃ x, x = Z.trim N := ⟨_, rfl⟩
         obtain ⟨S4, hS4⟩ : ∃ x, x = M.sum Z.K := ⟨_, rfl⟩
         have hinv := HJ.out.1.trim
         have hlen := len_trim (P := N) (Z := Z)
         rw [← hZ4] at RG hlen hinv
         rw [← hS4] at RG
         have RG := Lib.hid RG
         have HG := Lib.hid (show Inv N Z4 G ∧ Z4.u = Z.u ∧ Z4.l.length + (M.all Z4.K).length ≤ Z.l.length + (M.all Z.K).length from ⟨hinv, by rw [hZ4]; rfl, hlen⟩)
         have HE := Lib.hid (And.intro hZ4 hS4)
         clear hfit hZ4 hS4 hlen hinv
         have c0 := HV.out.1.dcb.bx.cs 0 _ rfl
         have c1 := HV.out.1.dcb.bx.cs 1 _ rfl
         have c2 := HV.out.1.dcb.bx.cs 2 _ rfl
         have c3 := HV.out.1.dcb.bx.cs 3 _ rfl
         have c4 := HV.out.1.dcb.bx.cs 4 _ rfl
         have c5 := HV.out.1.dcb.bx.cs 5 _ rfl
         have c6 := HV.out.1.dcb.bx.cs 6 _ rfl
         go_wp2_with fail
         refine RG.out.mono ?_
         rintro e w4 ⟨d4, rfl, D4, b4, mv4⟩
         go_upto_region 16 with fail
         clear a0 c0 c1 c2 c3 c4 c5 c6
         obtain ⟨v5, hv5⟩ : ∃ x, x = w4.alloc (.cells #[.int .i64 (N : Int), .slice d4.A d4.n d4.c, .int .i64 (Z4.u : Int), .int .i64 (N : Int), .slice d4.Al d4.z d4.cl, .int .i64 Z4.T, .slice d4.Ak d4.zk d4.ck] 34) := ⟨_, rfl⟩
         obtain ⟨g5, hg5⟩ : ∃ g, g = w4.heap.size := ⟨_, rfl⟩
         have b5 := (Below.refl w4.heap.size w4).alloc (Nat.le_refl _) (.cells (dcs N Z4 d4).toArray 34)
         have x5 := Bxn.new w4 34 (dcs N Z4 d4)
         rw [show w4.alloc (.cells (dcs N Z4 d4).toArray 34) = v5 from hv5.symm] at b5 x5
         rw [← hg5] at x5
         rw [← hv5, ← hg5]
         have y5 := (HV.out.1.dcb.bx.below (by simp) b4).below (by simp) b5
         have u0 := x5.cs 0 _ rfl
         have u1 := x5.cs 1 _ rfl
         have u2 := x5.cs 2 _ rfl
         have u3 := x5.cs 3 _ rfl
         have u4 := x5.cs 4 _ rfl
         have u5 := x5.cs 5 _ rfl
         have u6 := x5.cs 6 _ rfl
         have z0 := y5.fz 0
         have z1 := y5.fz 1
         have z2 := y5.fz 2
         have z3 := y5.fz 3
         have z4 := y5.fz 4
         have z5 := y5.fz 5
         have z6 := y5.fz 6
         have c0 := y5.cs 0 _ rfl
         have c1 := y5.cs 1 _ rfl
         have c2 := y5.cs 2 _ rfl
         have c3 := y5.cs 3 _ rfl
         have c4 := y5.cs 4 _ rfl
         have c5 := y5.cs 5 _ rfl
         have c6 := y5.cs 6 _ rfl
         have q5 := HV.out.1.ans D4 b4 mv4 b5
         have HQ := Lib.hid q5
         clear hv5 hg5 b5 x5 y5 D4 b4 mv4 q5
         go_upto_region 17 with fail
         have H6 := HQ.out
         generalize World.setCell _ ⟨g, 6, none⟩ (.slice d4.Ak d4.zk d4.ck) = w6 at *
         have H6 := Lib.hid (show Ps w w6 s a b c N (100 * j) j t cc A Z Z4 d4 g Q (fun x => D x ∨ x = y) G ∧ IsAct w6 y 0 ⟨dd, p, kd, ow, ix⟩ from ⟨H6.1, HV.out.2.1.kept H6.2 HV.out.2.2.2.1⟩)
         clear HQ u0 u1 u2 u3 u4 u5 u6 z0 z1 z2 z3 z4 z5 z6 c0 c1 c2 c3 c4 c5 c6
         have CG := ctrim_any H6.out.1.chk (by have := HR.out; omega) HJ.out.1.low
         rw [← HE.out.1, ← HE.out.2] at CG
         have CG := Lib.hid CG
         go_wp2_with fail
         refine CG.out.mono ?_
         rintro e w7 ⟨rfl, h7, k7⟩
         have H7 := Lib.hid (H6.out.1.call h7 k7)
         clear h7 k7 H6 CG RG
         generalize Wid Q w6 w7 = Q7 at *
         go_wp2_with fail
         refine (ctrim_none w7).mono ?_
         rintro e w8 ⟨rfl, b8⟩
         have H8 := Lib.hid (show Ps w w8 s a b c N (100 * (j + 1)) (j + 1) t cc A Z4 Z4 d4 g Q7 (fun x => D x ∨ x = y) G ∧ Inv N Z4 G ∧ Z4.u ≤ 10 * (j + 1) ∧ Z4.l.length + (M.all Z4.K).length ≤ 2 + (j + 1) from ⟨(H7.out.below b8).more (by omega) (by omega), HG.out.1, by have := HG.out.2.1; have := HJ.out.2.1; omega, by have := HG.out.2.2; have := HJ.out.2.2; omega⟩)
         clear b8 H7
         go_wp2_with fail
         go_meet
         exact ⟨t, cc, _, _, _, _, _, _, by have := HR.out; omega, rfl, H8⟩
      case rest =>
       as_aux_lemma =>
        obtain ⟨t2, cc2, A2, Z2, d2, Q2, D2, G2, ht2, rfl, HW⟩ := hcut
        clear HV HJ a0 htl HCN hd3
        generalize wc = wd at *
        have HS := Lib.hid (fun W hW => HW.out.1.below (w' := W) hW)
        have HC := Lib.hid (show ∀ W, Below wd.heap.size wd W → W.cell? ⟨g, 2, none⟩ = some (.int .i64 (Z2.u : Int)) ∧ W.cell? ⟨g, 4, none⟩ = some (.slice d2.Al d2.z d2.cl) ∧ W.cell? ⟨g, 5, none⟩ = some (.int .i64 Z2.T) ∧ W.cell? ⟨g, 6, none⟩ = some (.slice d2.Ak d2.zk d2.ck) from fun W hW => ⟨(HS.out W hW).dcb.bx.cs 2 _ rfl, (HS.out W hW).dcb.bx.cs 4 _ rfl, (HS.out W hW).dcb.bx.cs 5 _ rfl, (HS.out W hW).dcb.bx.cs 6 _ rfl⟩)
        have hT0 := HW.out.1.chk.st.al.fit.t0
        have hT1 := HW.out.1.chk.st.al.fit.t1
        have hts := tick_sum Z2.u Z2.T hT0 (by have := HR.out; omega) (by have := HW.out.2.2.1; have := HR.out; omega)
        obtain ⟨u2, hu2⟩ : ∃ x : Int, x = (Z2.u : Int) := ⟨_, rfl⟩
        obtain ⟨T2, hT2⟩ : ∃ x : Int, x = Z2.T := ⟨_, rfl⟩
        rw [← hu2, ← hT2] at HC hts
        have HU := Lib.hid (And.intro hu2 hT2)
        have HB := Lib.hid (show Z2.l.length ≤ 100 ∧ t2 ≤ j + 1 from ⟨by have := HW.out.2.2.2; have := HR.out; omega, ht2⟩)
        clear hT0 hT1 hu2 hT2 ht2
        go_upto_region 38 with fail
        refine wp_region_noPanic ?_
        refine wp_region_held_drew (S := fun W => W.cell? ⟨g, 2, none⟩ = some (.int .i64 u2) ∧ W.cell? ⟨g, 4, none⟩ = some (.slice d2.Al d2.z d2.cl) ∧ W.cell? ⟨g, 5, none⟩ = some (.int .i64 T2) ∧ W.cell? ⟨g, 6, none⟩ = some (.slice d2.Ak d2.zk d2.ck)) (by kernel_rfl) (HC.out _ (Below.refl _ _).drew) (fun hHeld => ?_)
        refine tkC 0 (some 181) (Op.move (Operand.tmp 6)) 24 (v := ?_) rfl (by decide +kernel) (by kernel_rfl) ?_ ‹_› ?_
        rotate_left
        ·(intro w h; (try dsimp only at h); go_simp) <;> with_reducible rfl
        (try simp only [Act.put, yI, yZ, yS])
        refine tkC 2 (some 183) (Op.fieldAddr 34 (Operand.tmp 7) 1) 0 (v := ?_) rfl (by decide +kernel) (by kernel_rfl) ?_ ‹_› ?_
        rotate_left
        ·(intro w h; (try dsimp only at h); go_simp) <;> with_reducible rfl
        (try simp only [Act.put, yI, yZ, yS])
        refine tkC 3 (some 184) (Op.fieldAddr 31 (Operand.tmp 183) 1) 0 (v := ?_) rfl (by decide +kernel) (by kernel_rfl) ?_ ‹_› ?_
        rotate_left
        ·(intro w h; (try dsimp only at h); go_simp) <;> with_reducible rfl
        (try simp only [Act.put, yI, yZ, yS])
        refine tkC 4 (some 185) (Op.load 29 (Operand.tmp 184)) 29 (v := ?_) rfl (by decide +kernel) (by kernel_rfl) ?_ ‹_› ?_
        rotate_left
        ·(intro w h; (try dsimp only at h); go_simp) <;> with_reducible rfl
        (try simp only [Act.put, yI, yZ, yS])
        refine rdA (rs := [1]) (by decide +kernel) ?_ rfl
        refine rcA (some 182) (Op.call { callee := Callee.value (Operand.func 14), args := #[Operand.tmp 181], argTypes := #[24] }) 29 rfl (by kernel_rfl) (fun K hK => ?_) AllReadyH.nil
        go_simp
        refine (cruns_any (HS.out _ (Below.refl _ _).drew).chk).mono ?_
        rintro e w3 ⟨A3, t3, c3, rfl, ht3, hR3, b3⟩
        have H3 := Lib.hid (show t3 = Z2.l.length ∧ Runs w3 A3 Z2.l ∧ Below wd.heap.size wd w3 from ⟨ht3, hR3, below_call ((Below.refl _ _).drew) b3⟩)
        clear ht3 hR3 b3
        go_wp2_with fail
        refine hK.out _ _ ?_ (fun hHeld => ?_)
        ·exact HC.out _ H3.out.2.2
        clear hK K
        (try simp only [Act.put, yI, yZ, yS])
        refine rdA (rs := [5]) (by decide +kernel) ?_ rfl
        refine rcA (some 186) (Op.call { callee := Callee.value (Operand.func 13), args := #[Operand.tmp 182, Operand.tmp 185], argTypes := #[29, 29] }) 4 rfl (by kernel_rfl) (fun K hK => ?_) AllReadyH.nil
        go_simp
        refine (same_eq10 w3 A3 d2.Al Z2.l t3 c3 d2.z d2.cl H3.out.1 (HS.out _ H3.out.2.2).dcb.doc.zl H3.out.2.1 (HS.out _ H3.out.2.2).dcb.doc.runs (by have := HB.out.1; have := H3.out.1; omega)).mono ?_
        rintro e w4 ⟨rfl, b4⟩
        have H4 := Lib.hid (show Below wd.heap.size wd w4 from below_call H3.out.2.2 b4)
        clear b4
        go_wp2_with fail
        refine hK.out _ _ ?_ (fun hHeld => ?_)
        ·exact HC.out _ H4.out
        clear hK K
        (try simp only [Act.put, yI, yZ, yS])
        refine tkC 6 (some 187) (Op.unOp UnOp.not 4 (Operand.tmp 186)) 4 (v := ?_) rfl (by decide +kernel) (by kernel_rfl) ?_ ‹_› ?_
        rotate_left
        ·(intro w h; (try dsimp only at h); go_simp) <;> with_reducible rfl
        (try simp only [Act.put, yI, yZ, yS])
        refine tkC 7 (some 188) (Op.move (Operand.tmp 187)) 4 (v := ?_) rfl (by decide +kernel) (by kernel_rfl) ?_ ‹_› ?_
        rotate_left
        ·(intro w h; (try dsimp only at h); go_simp) <;> with_reducible rfl
        (try simp only [Act.put, yI, yZ, yS])
        refine tkC 8 (some 189) (Op.move (Operand.tmp 6)) 24 (v := ?_) rfl (by decide +kernel) (by kernel_rfl) ?_ ‹_› ?_
        rotate_left
        ·(intro w h; (try dsimp only at h); go_simp) <;> with_reducible rfl
        (try simp only [Act.put, yI, yZ, yS])
        refine tkC 10 (some 191) (Op.fieldAddr 34 (Operand.tmp 7) 2) 0 (v := ?_) rfl (by decide +kernel) (by kernel_rfl) ?_ ‹_› ?_
        rotate_left
        ·(intro w h; (try dsimp only at h); go_simp) <;> with_reducible rfl
        (try simp only [Act.put, yI, yZ, yS])
        refine tkC 11 (some 192) (Op.load 32 (Operand.tmp 191)) 32 (v := ?_) rfl (by decide +kernel) (by kernel_rfl) ?_ ‹_› ?_
        rotate_left
        ·(intro w h; (try dsimp only at h); go_simp) <;> with_reducible rfl
        (try simp only [Act.put, yI, yZ, yS])
        refine rdA (rs := [9]) (by decide +kernel) ?_ rfl
        refine rcA (some 190) (Op.call { callee := Callee.value (Operand.func 15), args := #[Operand.tmp 189], argTypes := #[24] }) 29 rfl (by kernel_rfl) (fun K hK => ?_) AllReadyH.nil
        go_simp
        refine (ccached_any (HS.out _ H4.out).chk).mono ?_
        rintro e w5 ⟨g5, z5, rfl, hz5, hz28, hR5, hg5, b5⟩
        have H5 := Lib.hid (show z5 = (M.all Z2.K).length ∧ z5 ≤ 28 ∧ Runs w5 (some ⟨g5, 0, none⟩) (M.all Z2.K) ∧ Below wd.heap.size wd w5 from ⟨hz5, hz28, hR5, below_call H4.out b5⟩)
        clear hz5 hz28 hR5 hg5 b5
        go_wp2_with fail
        refine hK.out _ _ ?_ (fun hHeld => ?_)
        ·exact HC.out _ H5.out.2.2.2
        clear hK K
        (try simp only [Act.put, yI, yZ, yS])
        refine rdA (rs := [12]) (by decide +kernel) ?_ rfl
        refine rcA (some 193) (Op.call { callee := Callee.value (Operand.func 16), args := #[Operand.tmp 192], argTypes := #[32] }) 29 rfl (by kernel_rfl) (fun K hK => ?_) AllReadyH.nil
        go_simp
        have RA := rfall_any w5 d2.Ak d2.kl d2.zk d2.ck (HS.out _ H5.out.2.2.2).dcb.doc.kz (HS.out _ H5.out.2.2.2).dcb.doc.kept (by have := ((HS.out _ H5.out.2.2.2).dcb.doc.lk HW.out.2.1.good).2; omega) (by rw [(HS.out _ H5.out.2.2.2).dcb.doc.sel]; exact HW.out.2.1.good)
        rw [(HS.out _ H5.out.2.2.2).dcb.doc.sel] at RA
        refine RA.mono ?_
        rintro e w6 ⟨A6, z6, c6, rfl, hz6, hR6, b6, _⟩
        have H6 := Lib.hid (show z6 = (M.all Z2.K).length ∧ Runs w6 A6 (M.all Z2.K) ∧ Runs w6 (some ⟨g5, 0, none⟩) (M.all Z2.K) ∧ Below wd.heap.size wd w6 from ⟨hz6, hR6, H5.out.2.2.1.below b6, below_call H5.out.2.2.2 b6⟩)
        clear RA hz6 hR6 b6
        go_wp2_with fail
        refine hK.out _ _ ?_ (fun hHeld => ?_)
        ·exact HC.out _ H6.out.2.2.2
        clear hK K
        (try simp only [Act.put, yI, yZ, yS])
        refine rdA (rs := [13]) (by decide +kernel) ?_ rfl
        refine rcA (some 194) (Op.call { callee := Callee.value (Operand.func 13), args := #[Operand.tmp 190, Operand.tmp 193], argTypes := #[29, 29] }) 4 rfl (by kernel_rfl) (fun K hK => ?_) AllReadyH.nil
        go_simp
        refine (same_eq10 w6 (some ⟨g5, 0, none⟩) A6 (M.all Z2.K) z5 28 z6 c6 H5.out.1 H6.out.1 H6.out.2.2.1 H6.out.2.1 (by have := H5.out.2.1; omega)).mono ?_
        rintro e w7 ⟨rfl, b7⟩
        have H7 := Lib.hid (show Below wd.heap.size wd w7 from below_call H6.out.2.2.2 b7)
        clear b7
        go_wp2_with fail
        refine hK.out _ _ ?_ (fun hHeld => ?_)
        ·exact HC.out _ H7.out
        clear hK K
        (try simp only [Act.put, yI, yZ, yS])
        refine tkC 14 (some 195) (Op.unOp UnOp.not 4 (Operand.tmp 194)) 4 (v := ?_) rfl (by decide +kernel) (by kernel_rfl) ?_ ‹_› ?_
        rotate_left
        ·(intro w h; (try dsimp only at h); go_simp) <;> with_reducible rfl
        (try simp only [Act.put, yI, yZ, yS])
        refine tkC 15 (some 196) (Op.pick (Operand.tmp 188) (Operand.const (Value.bool true)) (Operand.tmp 195)) 4 (v := ?_) rfl (by decide +kernel) (by kernel_rfl) ?_ ‹_› ?_
        rotate_left
        ·(intro w h; (try dsimp only at h); go_simp) <;> with_reducible rfl
        (try simp only [Act.put, yI, yZ, yS])
        refine tkC 16 (some 197) (Op.move (Operand.tmp 196)) 4 (v := ?_) rfl (by decide +kernel) (by kernel_rfl) ?_ ‹_› ?_
        rotate_left
        ·(intro w h; (try dsimp only at h); go_simp) <;> with_reducible rfl
        (try simp only [Act.put, yI, yZ, yS])
        refine tkC 17 (some 198) (Op.move (Operand.tmp 6)) 24 (v := ?_) rfl (by decide +kernel) (by kernel_rfl) ?_ ‹_› ?_
        rotate_left
        ·(intro w h; (try dsimp only at h); go_simp) <;> with_reducible rfl
        (try simp only [Act.put, yI, yZ, yS])
        refine tkC 19 (some 200) (Op.fieldAddr 34 (Operand.tmp 7) 0) 0 (v := ?_) rfl (by decide +kernel) (by kernel_rfl) ?_ ‹_› ?_
        rotate_left
        ·(intro w h; (try dsimp only at h); go_simp) <;> with_reducible rfl
        (try simp only [Act.put, yI, yZ, yS])
        refine tkC 20 (some 201) (Op.fieldAddr 28 (Operand.tmp 200) 2) 0 (v := ?_) rfl (by decide +kernel) (by kernel_rfl) ?_ ‹_› ?_
        rotate_left
        ·(intro w h; (try dsimp only at h); go_simp) <;> with_reducible rfl
        (try simp only [Act.put, yI, yZ, yS])
        refine tkC 21 (some 202) (Op.load 3 (Operand.tmp 201)) 3 (v := ?_) rfl (by decide +kernel) (by kernel_rfl) ?_ ‹_› ?_
        rotate_left
        ·(intro w h; (try dsimp only at h); go_simp) <;> with_reducible rfl
        (try simp only [Act.put, yI, yZ, yS])
        refine tkC 22 (some 203) (Op.fieldAddr 34 (Operand.tmp 7) 1) 0 (v := ?_) rfl (by decide +kernel) (by kernel_rfl) ?_ ‹_› ?_
        rotate_left
        ·(intro w h; (try dsimp only at h); go_simp) <;> with_reducible rfl
        (try simp only [Act.put, yI, yZ, yS])
        refine tkC 23 (some 204) (Op.fieldAddr 31 (Operand.tmp 203) 2) 0 (v := ?_) rfl (by decide +kernel) (by kernel_rfl) ?_ ‹_› ?_
        rotate_left
        ·(intro w h; (try dsimp only at h); go_simp) <;> with_reducible rfl
        (try simp only [Act.put, yI, yZ, yS])
        refine tkC 24 (some 205) (Op.load 3 (Operand.tmp 204)) 3 (v := ?_) rfl (by decide +kernel) (by kernel_rfl) ?_ ‹_› ?_
        rotate_left
        ·(intro w h; (try dsimp only at h); go_simp) <;> with_reducible rfl
        (try simp only [Act.put, yI, yZ, yS])
        refine tkC 25 (some 206) (Op.binOp BinOp.add 3 (Operand.tmp 202) (Operand.tmp 205) 3) 3 (v := ?_) rfl (by decide +kernel) (by kernel_rfl) ?_ ‹_› ?_
        rotate_left
        ·(intro w h; (try dsimp only at h); go_simp) <;> with_reducible rfl
        (try simp only [Act.put, yI, yZ, yS])
        refine rdA (rs := [18]) (by decide +kernel) ?_ rfl
        refine rcA (some 199) (Op.call { callee := Callee.value (Operand.func 17), args := #[Operand.tmp 198], argTypes := #[24] }) 3 rfl (by kernel_rfl) (fun K hK => ?_) AllReadyH.nil
        go_simp
        refine (cticks_any (HS.out _ H7.out).chk (by have := HR.out; omega) (by have := HW.out.2.2.1; have := HR.out; omega)).mono ?_
        rintro e w8 ⟨rfl, b8⟩
        rw [← HU.out.1, ← HU.out.2]
        have H8 := Lib.hid (show Below wd.heap.size wd w8 from below_call H7.out b8)
        clear b8
        go_wp2_with fail
        refine hK.out _ _ ?_ (fun hHeld => ?_)
        ·exact HC.out _ H8.out
        clear hK K
        (try simp only [Act.put, yI, yZ, yS])
        refine tkC 26 (some 207) (Op.binOp BinOp.neq 3 (Operand.tmp 199) (Operand.tmp 206) 3) 4 (v := ?_) rfl (by decide +kernel) (by kernel_rfl) ?_ ‹_› ?_
        rotate_left
        ·(intro w h; (try dsimp only at h); go_simp) <;> with_reducible rfl
        (try simp only [Act.put, yI, yZ, yS])
        refine tkC 27 (some 208) (Op.pick (Operand.tmp 197) (Operand.const (Value.bool true)) (Operand.tmp 207)) 4 (v := ?_) rfl (by decide +kernel) (by kernel_rfl) ?_ ‹_› ?_
        rotate_left
        ·(intro w h; (try dsimp only at h); go_simp) <;> with_reducible rfl
        (try simp only [Act.put, yI, yZ, yS])
        refine wpAnyH_done (by kernel_rfl) ?_ _
        refine NoPanic.normal ?_
        have H9 := Lib.hid (HS.out _ H8.out)
        clear hts
        go_wp2_with fail
        go_roundw
        case rel => exact ⟨j + 1, t2, cc2, A2, Z2, d2, Q2, D2, G2, by have := HR.out; omega, HB.out.2, by have := HR.out; go_num, rfl, H9.out, HW.out.2⟩
        case measure => have := HR.out; simp [intOf]; omega
   ·as_aux_lemma =>
     have hjn : j = len1 := by omega
     have HS := Lib.hid (fun W hW => HI.out.1.below (w' := W) hW)
     have hzl := HI.out.1.dcb.doc.zl
     have HC := Lib.hid (show ∀ W, Below wr.heap.size wr W → W.cell? ⟨g, 0, none⟩ = some (.int .i64 (N : Int)) ∧ W.cell? ⟨g, 4, none⟩ = some (.slice d.Al Z.l.length d.cl) from fun W hW => ⟨(HS.out W hW).dcb.bx.cs 0 _ rfl, by have := (HS.out W hW).dcb.bx.cs 4 _ rfl; rw [hzl] at this; exact this⟩)
     have HB := Lib.hid (show Z.l.length ≤ 100 from by have := HI.out.2.2.2; omega)
     have HOK := Lib.hid (show M.Ok (-1) 1073741824 Z.l from HI.out.1.chk.st.al.fit.ok.wide (by have := HN.out; omega))
     obtain ⟨tt, htt⟩ : ∃ x, x = M.total Z.l := ⟨_, rfl⟩
     obtain ⟨ll, hll⟩ : ∃ x : Nat, x = Z.l.length := ⟨_, rfl⟩
     have HT := Lib.hid (And.intro htt hll)
     rw [← hll] at HC
     clear hjn htj hj hzl htt hll
     go_wp2_with fail
     clear hlt
     refine (cfree_any HI.out.1.chk).mono ?_
     rintro e w5 ⟨rfl, b5⟩
     rw [← HT.out.1, ← HT.out.2]
     have H5 := Lib.hid b5
     clear b5
     go_wp2_with fail
     refine (cfree_none w5).mono ?_
     rintro e w6 ⟨rfl, b6⟩
     have H6 := Lib.hid (show Below wr.heap.size wr w6 from below_call H5.out b6)
     clear b6
     go_upto_region 42 with fail
     refine wp_region_noPanic ?_
     refine wp_region_held_drew (S := fun W => W.cell? ⟨g, 0, none⟩ = some (.int .i64 (N : Int)) ∧ W.cell? ⟨g, 4, none⟩ = some (.slice d.Al ll d.cl)) (by kernel_rfl) (HC.out _ H6.out.drew) (fun hHeld => ?_)
     refine tkC 0 (some 219) (Op.move (Operand.tmp 28)) 3 (v := ?_) rfl (by decide +kernel) (by kernel_rfl) ?_ ‹_› ?_
     rotate_left
     ·(intro w h; (try dsimp only at h); go_simp) <;> with_reducible rfl
     (try simp only [Act.put, yI, yZ, yS])
     refine tkC 1 (some 220) (Op.fieldAddr 34 (Operand.tmp 7) 1) 0 (v := ?_) rfl (by decide +kernel) (by kernel_rfl) ?_ ‹_› ?_
     rotate_left
     ·(intro w h; (try dsimp only at h); go_simp) <;> with_reducible rfl
     (try simp only [Act.put, yI, yZ, yS])
     refine tkC 2 (some 221) (Op.fieldAddr 31 (Operand.tmp 220) 1) 0 (v := ?_) rfl (by decide +kernel) (by kernel_rfl) ?_ ‹_› ?_
     rotate_left
     ·(intro w h; (try dsimp only at h); go_simp) <;> with_reducible rfl
     (try simp only [Act.put, yI, yZ, yS])
     refine tkC 3 (some 222) (Op.load 29 (Operand.tmp 221)) 29 (v := ?_) rfl (by decide +kernel) (by kernel_rfl) ?_ ‹_› ?_
     rotate_left
     ·(intro w h; (try dsimp only at h); go_simp) <;> with_reducible rfl
     (try simp only [Act.put, yI, yZ, yS])
     refine rdA (rs := [4]) (by decide +kernel) ?_ rfl
     refine rcA (some 223) (Op.call { callee := Callee.value (Operand.func 19), args := #[Operand.tmp 222], argTypes := #[29] }) 3 rfl (by kernel_rfl) (fun K hK => ?_) AllReadyH.nil
     go_simp
     have RT := rtotal_any w6.drew d.Al Z.l ll d.cl HT.out.2 (HS.out _ H6.out.drew).dcb.doc.runs (by have := HB.out; have := HT.out.2; omega) HOK.out
     rw [← HT.out.1] at RT
     refine RT.mono ?_
     rintro e w7 ⟨rfl, b7⟩
     have H7 := Lib.hid (show Below wr.heap.size wr w7 from below_call H6.out.drew b7)
     clear b7 RT
     go_wp2_with fail
     refine hK.out _ _ ?_ (fun hHeld => ?_)
     ·exact HC.out _ H7.out
     clear hK K
     (try simp only [Act.put, yI, yZ, yS])
     refine tkC 5 (some 224) (Op.binOp BinOp.eql 3 (Operand.tmp 219) (Operand.tmp 223) 3) 4 (v := ?_) rfl (by decide +kernel) (by kernel_rfl) ?_ ‹_› ?_
     rotate_left
     ·(intro w h; (try dsimp only at h); go_simp) <;> with_reducible rfl
     (try simp only [Act.put, yI, yZ, yS])
     refine tkC 6 (some 225) (Op.move (Operand.tmp 224)) 4 (v := ?_) rfl (by decide +kernel) (by kernel_rfl) ?_ ‹_› ?_
     rotate_left
     ·(intro w h; (try dsimp only at h); go_simp) <;> with_reducible rfl
     (try simp only [Act.put, yI, yZ, yS])
     refine tkC 7 (some 226) (Op.move (Operand.tmp 29)) 3 (v := ?_) rfl (by decide +kernel) (by kernel_rfl) ?_ ‹_› ?_
     rotate_left
     ·(intro w h; (try dsimp only at h); go_simp) <;> with_reducible rfl
     (try simp only [Act.put, yI, yZ, yS])
     refine tkC 8 (some 227) (Op.fieldAddr 34 (Operand.tmp 7) 1) 0 (v := ?_) rfl (by decide +kernel) (by kernel_rfl) ?_ ‹_› ?_
     rotate_left
     ·(intro w h; (try dsimp only at h); go_simp) <;> with_reducible rfl
     (try simp only [Act.put, yI, yZ, yS])
     refine tkC 9 (some 228) (Op.fieldAddr 31 (Operand.tmp 227) 1) 0 (v := ?_) rfl (by decide +kernel) (by kernel_rfl) ?_ ‹_› ?_
     rotate_left
     ·(intro w h; (try dsimp only at h); go_simp) <;> with_reducible rfl
     (try simp only [Act.put, yI, yZ, yS])
     refine tkC 10 (some 229) (Op.load 29 (Operand.tmp 228)) 29 (v := ?_) rfl (by decide +kernel) (by kernel_rfl) ?_ ‹_› ?_
     rotate_left
     ·(intro w h; (try dsimp only at h); go_simp) <;> with_reducible rfl
     (try simp only [Act.put, yI, yZ, yS])
     refine tkC 11 (some 230) (Op.call { callee := Callee.builtin Builtin.len, args := #[Operand.tmp 229], argTypes := #[29] }) 3 (v := ?_) rfl (by decide +kernel) (by kernel_rfl) ?_ ‹_› ?_
     rotate_left
     ·(intro w h; (try dsimp only at h); go_simp) <;> with_reducible rfl
     (try simp only [Act.put, yI, yZ, yS])
     refine tkC 12 (some 231) (Op.binOp BinOp.eql 3 (Operand.tmp 226) (Operand.tmp 230) 3) 4 (v := ?_) rfl (by decide +kernel) (by kernel_rfl) ?_ ‹_› ?_
     rotate_left
     ·(intro w h; (try dsimp only at h); go_simp) <;> with_reducible rfl
     (try simp only [Act.put, yI, yZ, yS])
     refine tkC 13 (some 232) (Op.pick (Operand.tmp 225) (Operand.tmp 231) (Operand.const (Value.bool false))) 4 (v := ?_) rfl (by decide +kernel) (by kernel_rfl) ?_ ‹_› ?_
     rotate_left
     ·(intro w h; (try dsimp only at h); go_simp) <;> with_reducible rfl
     (try simp only [Act.put, yI, yZ, yS])
     refine tkC 14 (some 233) (Op.move (Operand.tmp 232)) 4 (v := ?_) rfl (by decide +kernel) (by kernel_rfl) ?_ ‹_› ?_
     rotate_left
     ·(intro w h; (try dsimp only at h); go_simp) <;> with_reducible rfl
     (try simp only [Act.put, yI, yZ, yS])
     refine tkC 15 (some 234) (Op.move (Operand.tmp 6)) 24 (v := ?_) rfl (by decide +kernel) (by kernel_rfl) ?_ ‹_› ?_
     rotate_left
     ·(intro w h; (try dsimp only at h); go_simp) <;> with_reducible rfl
     (try simp only [Act.put, yI, yZ, yS])
     refine tkC 18 (some 237) (Op.fieldAddr 34 (Operand.tmp 7) 0) 0 (v := ?_) rfl (by decide +kernel) (by kernel_rfl) ?_ ‹_› ?_
     rotate_left
     ·(intro w h; (try dsimp only at h); go_simp) <;> with_reducible rfl
     (try simp only [Act.put, yI, yZ, yS])
     refine tkC 19 (some 238) (Op.fieldAddr 28 (Operand.tmp 237) 0) 0 (v := ?_) rfl (by decide +kernel) (by kernel_rfl) ?_ ‹_› ?_
     rotate_left
     ·(intro w h; (try dsimp only at h); go_simp) <;> with_reducible rfl
     (try simp only [Act.put, yI, yZ, yS])
     refine tkC 20 (some 239) (Op.load 3 (Operand.tmp 238)) 3 (v := ?_) rfl (by decide +kernel) (by kernel_rfl) ?_ ‹_› ?_
     rotate_left
     ·(intro w h; (try dsimp only at h); go_simp) <;> with_reducible rfl
     (try simp only [Act.put, yI, yZ, yS])
     refine rdA (rs := [16]) (by decide +kernel) ?_ rfl
     refine rcA (some 235) (Op.call { callee := Callee.value (Operand.func 20), args := #[Operand.tmp 234], argTypes := #[24] }) 57 rfl (by kernel_rfl) (fun K hK => ?_) AllReadyH.nil
     go_simp
     refine (cspace_any (HS.out _ H7.out).chk).mono ?_
     rintro e w8 ⟨rfl, b8⟩
     have H8 := Lib.hid (show Below wr.heap.size wr w8 from below_call H7.out b8)
     clear b8
     go_wp2_with fail
     refine hK.out _ _ ?_ (fun hHeld => ?_)
     ·exact HC.out _ H8.out
     clear hK K
     (try simp only [Act.put, yI, yZ, yS])
     refine rdA (rs := [17]) (by decide +kernel) ?_ rfl
     refine rcA (some 236) (Op.call { callee := Callee.value (Operand.func 21), args := #[Operand.tmp 235], argTypes := #[57] }) 3 rfl (by kernel_rfl) (fun K hK => ?_) AllReadyH.nil
     go_simp
     refine (st_size (HS.out _ H8.out).chk.st).mono ?_
     rintro e w9 ⟨rfl, rfl⟩
     go_wp2_with fail
     refine hK.out _ _ ?_ (fun hHeld => ?_)
     ·exact HC.out _ H8.out
     clear hK K
     (try simp only [Act.put, yI, yZ, yS])
     refine tkC 21 (some 240) (Op.binOp BinOp.eql 3 (Operand.tmp 236) (Operand.tmp 239) 3) 4 (v := ?_) rfl (by decide +kernel) (by kernel_rfl) ?_ ‹_› ?_
     rotate_left
     ·(intro w h; (try dsimp only at h); go_simp) <;> with_reducible rfl
     (try simp only [Act.put, yI, yZ, yS])
     refine tkC 22 (some 241) (Op.pick (Operand.tmp 233) (Operand.tmp 240) (Operand.const (Value.bool false))) 4 (v := ?_) rfl (by decide +kernel) (by kernel_rfl) ?_ ‹_› ?_
     rotate_left
     ·(intro w h; (try dsimp only at h); go_simp) <;> with_reducible rfl
     (try simp only [Act.put, yI, yZ, yS])
     refine tkC 23 (some 242) (Op.move (Operand.tmp 241)) 4 (v := ?_) rfl (by decide +kernel) (by kernel_rfl) ?_ ‹_› ?_
     rotate_left
     ·(intro w h; (try dsimp only at h); go_simp) <;> with_reducible rfl
     (try simp only [Act.put, yI, yZ, yS])
     refine tkC 24 (some 243) (Op.move (Operand.tmp 8)) 24 (v := ?_) rfl (by decide +kernel) (by kernel_rfl) ?_ ‹_› ?_
     rotate_left
     ·(intro w h; (try dsimp only at h); go_simp) <;> with_reducible rfl
     (try simp only [Act.put, yI, yZ, yS])
     refine rdA (rs := [25]) (by decide +kernel) ?_ rfl
     refine rcA (some 244) (Op.call { callee := Callee.value (Operand.func 20), args := #[Operand.tmp 243], argTypes := #[24] }) 57 rfl (by kernel_rfl) (fun K hK => ?_) AllReadyH.nil
     go_simp
     refine (cspace_none w8).mono ?_
     rintro e w9 ⟨rfl, b9⟩
     have H9 := Lib.hid (show Below wr.heap.size wr w9 from below_call H8.out b9)
     clear b9
     go_wp2_with fail
     refine hK.out _ _ ?_ (fun hHeld => ?_)
     ·exact HC.out _ H9.out
     clear hK K
     (try simp only [Act.put, yI, yZ, yS])
     refine tkC 26 (some 245) (Op.binOp BinOp.eql 57 (Operand.tmp 244) (Operand.const (Value.pointer none)) 57) 4 (v := ?_) rfl (by decide +kernel) (by kernel_rfl) ?_ ‹_› ?_
     rotate_left
     ·(intro w h; (try dsimp only at h); go_simp) <;> with_reducible rfl
     (try simp only [Act.put, yI, yZ, yS])
     refine tkC 27 (some 246) (Op.pick (Operand.tmp 242) (Operand.tmp 245) (Operand.const (Value.bool false))) 4 (v := ?_) rfl (by decide +kernel) (by kernel_rfl) ?_ ‹_› ?_
     rotate_left
     ·(intro w h; (try dsimp only at h); go_simp) <;> with_reducible rfl
     (try simp only [Act.put, yI, yZ, yS])
     refine tkC 28 (some 247) (Op.move (Operand.tmp 246)) 4 (v := ?_) rfl (by decide +kernel) (by kernel_rfl) ?_ ‹_› ?_
     rotate_left
     ·(intro w h; (try dsimp only at h); go_simp) <;> with_reducible rfl
     (try simp only [Act.put, yI, yZ, yS])
     refine tkC 29 (some 248) (Op.move (Operand.tmp 30)) 3 (v := ?_) rfl (by decide +kernel) (by kernel_rfl) ?_ ‹_› ?_
     rotate_left
     ·(intro w h; (try dsimp only at h); go_simp) <;> with_reducible rfl
     (try simp only [Act.put, yI, yZ, yS])
     refine tkC 30 (some 249) (Op.move (Operand.tmp 31)) 3 (v := ?_) rfl (by decide +kernel) (by kernel_rfl) ?_ ‹_› ?_
     rotate_left
     ·(intro w h; (try dsimp only at h); go_simp) <;> with_reducible rfl
     (try simp only [Act.put, yI, yZ, yS])
     refine tkC 31 (some 250) (Op.binOp BinOp.add 3 (Operand.tmp 248) (Operand.tmp 249) 3) 3 (v := ?_) rfl (by decide +kernel) (by kernel_rfl) ?_ ‹_› ?_
     rotate_left
     ·(intro w h; (try dsimp only at h); go_simp) <;> with_reducible rfl
     (try simp only [Act.put, yI, yZ, yS])
     refine tkC 32 (some 251) (Op.binOp BinOp.eql 3 (Operand.tmp 250) (Operand.const (Value.int IntKind.i64 0)) 3) 4 (v := ?_) rfl (by decide +kernel) (by kernel_rfl) ?_ ‹_› ?_
     rotate_left
     ·(intro w h; (try dsimp only at h); go_simp) <;> with_reducible rfl
     (try simp only [Act.put, yI, yZ, yS])
     refine tkC 33 (some 252) (Op.pick (Operand.tmp 247) (Operand.tmp 251) (Operand.const (Value.bool false))) 4 (v := ?_) rfl (by decide +kernel) (by kernel_rfl) ?_ ‹_› ?_
     rotate_left
     ·(intro w h; (try dsimp only at h); go_simp) <;> with_reducible rfl
     (try simp only [Act.put, yI, yZ, yS])
     refine tkC 34 (some 253) (Op.move (Operand.tmp 252)) 4 (v := ?_) rfl (by decide +kernel) (by kernel_rfl) ?_ ‹_› ?_
     rotate_left
     ·(intro w h; (try dsimp only at h); go_simp) <;> with_reducible rfl
     (try simp only [Act.put, yI, yZ, yS])
     refine tkC 35 (some 254) (Op.move (Operand.tmp 8)) 24 (v := ?_) rfl (by decide +kernel) (by kernel_rfl) ?_ ‹_› ?_
     rotate_left
     ·(intro w h; (try dsimp only at h); go_simp) <;> with_reducible rfl
     (try simp only [Act.put, yI, yZ, yS])
     refine tkC 38 (some 257) (Op.move (Operand.tmp 8)) 24 (v := ?_) rfl (by decide +kernel) (by kernel_rfl) ?_ ‹_› ?_
     rotate_left
     ·(intro w h; (try dsimp only at h); go_simp) <;> with_reducible rfl
     (try simp only [Act.put, yI, yZ, yS])
     refine rdA (rs := [36]) (by decide +kernel) ?_ rfl
     refine rcA (some 255) (Op.call { callee := Callee.value (Operand.func 15), args := #[Operand.tmp 254], argTypes := #[24] }) 29 rfl (by kernel_rfl) (fun K hK => ?_) AllReadyH.nil
     go_simp
     refine (ccached_none w9).mono ?_
     rintro e w10 ⟨g10, z10, rfl, hz10, _, _, _, b10⟩
     have H10 := Lib.hid (show Below wr.heap.size wr w10 from below_call H9.out b10)
     simp only [List.length_nil] at hz10
     subst hz10
     clear b10
     go_wp2_with fail
     refine hK.out _ _ ?_ (fun hHeld => ?_)
     ·exact HC.out _ H10.out
     clear hK K
     (try simp only [Act.put, yI, yZ, yS])
     refine tkC 37 (some 256) (Op.call { callee := Callee.builtin Builtin.len, args := #[Operand.tmp 255], argTypes := #[29] }) 3 (v := ?_) rfl (by decide +kernel) (by kernel_rfl) ?_ ‹_› ?_
     rotate_left
     ·(intro w h; (try dsimp only at h); go_simp) <;> with_reducible rfl
     (try simp only [Act.put, yI, yZ, yS])
     refine rdA (rs := [39]) (by decide +kernel) ?_ rfl
     refine rcA (some 258) (Op.call { callee := Callee.value (Operand.func 14), args := #[Operand.tmp 257], argTypes := #[24] }) 29 rfl (by kernel_rfl) (fun K hK => ?_) AllReadyH.nil
     go_simp
     refine (cruns_none w10).mono ?_
     rintro e w11 ⟨rfl, b11⟩
     have H11 := Lib.hid (show Below wr.heap.size wr w11 from below_call H10.out b11)
     clear b11
     go_wp2_with fail
     refine hK.out _ _ ?_ (fun hHeld => ?_)
     ·exact HC.out _ H11.out
     clear hK K
     (try simp only [Act.put, yI, yZ, yS])
     refine tkC 40 (some 259) (Op.call { callee := Callee.builtin Builtin.len, args := #[Operand.tmp 258], argTypes := #[29] }) 3 (v := ?_) rfl (by decide +kernel) (by kernel_rfl) ?_ ‹_› ?_
     rotate_left
     ·(intro w h; (try dsimp only at h); go_simp) <;> with_reducible rfl
     (try simp only [Act.put, yI, yZ, yS])
     refine tkC 41 (some 260) (Op.binOp BinOp.add 3 (Operand.tmp 256) (Operand.tmp 259) 3) 3 (v := ?_) rfl (by decide +kernel) (by kernel_rfl) ?_ ‹_› ?_
     rotate_left
     ·(intro w h; (try dsimp only at h); go_simp) <;> with_reducible rfl
     (try simp only [Act.put, yI, yZ, yS])
     refine tkC 42 (some 261) (Op.binOp BinOp.eql 3 (Operand.tmp 260) (Operand.const (Value.int IntKind.i64 0)) 3) 4 (v := ?_) rfl (by decide +kernel) (by kernel_rfl) ?_ ‹_› ?_
     rotate_left
     ·(intro w h; (try dsimp only at h); go_simp) <;> with_reducible rfl
     (try simp only [Act.put, yI, yZ, yS])
     refine tkC 43 (some 262) (Op.pick (Operand.tmp 253) (Operand.tmp 261) (Operand.const (Value.bool false))) 4 (v := ?_) rfl (by decide +kernel) (by kernel_rfl) ?_ ‹_› ?_
     rotate_left
     ·(intro w h; (try dsimp only at h); go_simp) <;> with_reducible rfl
     (try simp only [Act.put, yI, yZ, yS])
     refine tkC 44 (some 263) (Op.move (Operand.tmp 262)) 4 (v := ?_) rfl (by decide +kernel) (by kernel_rfl) ?_ ‹_› ?_
     rotate_left
     ·(intro w h; (try dsimp only at h); go_simp) <;> with_reducible rfl
     (try simp only [Act.put, yI, yZ, yS])
     refine tkC 45 (some 264) (Op.move (Operand.tmp 8)) 24 (v := ?_) rfl (by decide +kernel) (by kernel_rfl) ?_ ‹_› ?_
     rotate_left
     ·(intro w h; (try dsimp only at h); go_simp) <;> with_reducible rfl
     (try simp only [Act.put, yI, yZ, yS])
     refine rdA (rs := [46]) (by decide +kernel) ?_ rfl
     refine rcA (some 265) (Op.call { callee := Callee.value (Operand.func 17), args := #[Operand.tmp 264], argTypes := #[24] }) 3 rfl (by kernel_rfl) (fun K hK => ?_) AllReadyH.nil
     go_simp
     refine (cticks_none w11).mono ?_
     rintro e w12 ⟨rfl, b12⟩
     have H12 := Lib.hid (show Below wr.heap.size wr w12 from below_call H11.out b12)
     clear b12
     go_wp2_with fail
     refine hK.out _ _ ?_ (fun hHeld => ?_)
     ·exact HC.out _ H12.out
     clear hK K
     (try simp only [Act.put, yI, yZ, yS])
     refine tkC 47 (some 266) (Op.binOp BinOp.eql 3 (Operand.tmp 265) (Operand.const (Value.int IntKind.i64 0)) 3) 4 (v := ?_) rfl (by decide +kernel) (by kernel_rfl) ?_ ‹_› ?_
     rotate_left
     ·(intro w h; (try dsimp only at h); go_simp) <;> with_reducible rfl
     (try simp only [Act.put, yI, yZ, yS])
     refine tkC 48 (some 267) (Op.pick (Operand.tmp 263) (Operand.tmp 266) (Operand.const (Value.bool false))) 4 (v := ?_) rfl (by decide +kernel) (by kernel_rfl) ?_ ‹_› ?_
     rotate_left
     ·(intro w h; (try dsimp only at h); go_simp) <;> with_reducible rfl
     (try simp only [Act.put, yI, yZ, yS])
     refine tkC 49 (some 4) (Op.assign (Operand.tmp 267)) 4 (v := ?_) rfl (by decide +kernel) (by kernel_rfl) ?_ ‹_› ?_
     rotate_left
     ·(intro w h; (try dsimp only at h); go_simp) <;> with_reducible rfl
     (try simp only [Act.put, yI, yZ, yS])
     refine wpAnyH_done (by kernel_rfl) ?_ _
     refine NoPanic.normal ?_
     go_wp2_with fail
     go_ret
     exact ⟨rfl, (HS.out _ H12.out).chk.bel⟩
/-! The row's step. -/
set_option maxRecDepth 100000 in
theorem lifted (os : Os) (started : os.Started) (H : Type) (enc : TypeId × Value → H) :
  ReturnsInHanded {} Tryz.checked os 3 .any (Rows.chunkPlaysSpec.pre6 enc Tryz.prog Tryz.f3 Rows.chunkPlaysRow.domain false) (Rows.chunkPlaysSpec.post enc Tryz.prog Tryz.f3 false true false false) := by
 refine returnsInHanded_of_change (C := Tryz.checked) own started (by kernel_rfl) Tryz.func3
  (ChangeSpec.witness6 (enc := enc) (C := Tryz.checked) false ⟨#[], #[.int .i64 0, .slice none 0 0], []⟩ 8 (by kernel_rfl) (by kernel_rfl) (by kernel_rfl) (by kernel_rfl)) ?_
 intro W base args ds gs before hval0 hW hcnd _
 have hval : ∀ (j : Nat) t v, Tryz.f3.params[j]? = some t → args[j]? = some v → Value.okWide Tryz.prog W .any base t v := hval0
 have hW' := hW
 obtain ⟨p, q, hA0, hV, rfl, hfz, hnd⟩ := hW
 have hA : DataW.TrodAll enc Tryz.prog W 0 (fun _ => true) true Tryz.f3.params.toList args.toList ds p := hA0
 rw [Tryz.params3] at hA hval
 obtain ⟨v0, vs0, d0, ds0, p0, q0, hargs, rfl, rfl, h0, r0⟩ := trodAll_cons hA
 obtain ⟨v1, vs1, d1, ds1, p1, q1, rfl, rfl, rfl, h1, r1⟩ := trodAll_cons r0
 obtain ⟨rfl, rfl, rfl⟩ := trodAll_nil r1
 obtain rfl : args = #[v0, v1] := by cases args; simp_all
 obtain ⟨rfl, rfl⟩ := trodVars_none hV
 obtain ⟨a0, rfl, rfl, rfl, w0⟩ := open_int Tryz.underlying3 (hval 0 3 v0 rfl rfl) h0
 obtain ⟨a1, len1, cap1, rfl⟩ := okWide_slice Tryz.underlying22 (hval 1 22 v1 rfl rfl)
 have k1 := h1
 have lt1 : ∀ x ∈ p1, x.block < W.heap.size := by obtain ⟨m, hm⟩ := k1; exact DataW.trod_lt m _ _ _ hm
 have w1 : IsActs W a1 len1 := by
  obtain ⟨fuel, hf⟩ := h1
  obtain ⟨A, l, c, hcs, hw⟩ := acts_open hf
  simp [Value.cells] at hcs
  obtain ⟨rfl, rfl, rfl⟩ := hcs
  exact hw
 clear hA0 hval0
 refine (walk a0 a1 len1 cap1 W w0 w1).mono fun e W' ⟨he, bel⟩ => ?_
 subst he
 exact ⟨_, rfl, _, _, _, [], _, [], hW', trodAll_mk1 (shut_bool Tryz.underlying4 _), (trodAll_cons_mk (shut_int Tryz.underlying3 w0) (trodAll_cons_mk (Below.trod laidOut (by kernel_rfl) (of_decide_eq_true (by kernel_rfl)) k1 bel lt1) trodAll_mk0)), rfl, bel.frame _, fun h => by cases h⟩
theorem over : Rows.chunkPlaysRow.holds Tryz.pinned (OpenSpec.ofChange Rows.chunkPlaysSpec) :=
 OpenClaim.holds_of_wide 3 Tryz.f3 rfl rfl rfl rfl rfl rfl rfl ⟨rfl, rfl, rfl, rfl, rfl⟩ rfl rfl rfl rfl rfl (by kernel_rfl) Tryz.func3 (by kernel_rfl)
  (of_decide_eq_true (by kernel_rfl)) (by unfold Func.isWrapper; first | (rw [if_pos (by decide +kernel)]; kernel_rfl) | (rw [if_neg (by decide +kernel)]; exact ⟨rfl, rfl⟩))
  (fun os started H enc _ => lifted os started H enc)
/-- The statement. -/
theorem proved : Rows.ChunkPlaysSaid := over
#print axioms proved
end Go.Proofs.YtmboibipabkhaaaGreat.chunkPlays
