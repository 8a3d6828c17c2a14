/-
  ChunkApart is true whatever the input: each page is in a free run, in a chunk that is kept, or in one that was got and not put, in one alone, and each that was got has its header; no conditions.
-/
import Derived.Test.YtmboibipabkhaaaRows
import Derived.WalkKit
import Derived.ProofKit
import Derived.OpenShut
import Derived.ShutString
import Derived.ChangeOld
import Derived.Below
import Derived.Test.YtmboibipabkhaaaK13
import Derived.Test.YtmboibipabkhaaaK5
namespace Go.Proofs.Ytmboibipabkhaaa.chunkApart
open Go.ChangeShapes Go.WideShapes Go.ChangeAt Go.RowKit
set_option linter.unusedVariables false

theorem own : ownKnob Try.prog.godebug = none := by kernel_rfl

/-! The walk. -/
set_option maxRecDepth 20000 in
set_option maxHeartbeats 16000000 in
theorem walk (a0 : Int) (a1 : Option Addr) (len1 cap1 : Nat) (w : World) (w0 : (Lit.int .u8 a0).wf = true) (w1 : IsActs w a1 len1) :
    Calls Try.prog 3 #[.int .u8 a0, .slice a1 len1 cap1] w fun e w' => e = .returned (.bool true) ∧ Below w.heap.size w w' := by
  obtain ⟨n0, hn0, rfl⟩ := u8_nat w0
  obtain ⟨hl63, L, hL, hActs⟩ := w1
  clear w0
  obtain ⟨N, hN⟩ : ∃ N : Nat, (N : Int) = min (max (n0 : Int) 1) 1048576 := ⟨max n0 1, by omega⟩
  have HN := Lib.hid (show (N : Int) = min (max (n0 : Int) 1) 1048576 ∧ 1 ≤ N ∧ N ≤ 255 by omega)
  have HA := Lib.hid (And.intro hL hActs)
  clear hN hActs hL
  go_enter Try.func3, Try.ntmps3
  go_wp2_with fail
  refine (awake10_any _).mono ?_
  rintro e w1 ⟨rfl, b1⟩
  have B1 := Lib.hid b1
  clear b1
  by_cases h50 : 50 < len1
  · go_wp2_with fail
    go_ret
    exact ⟨rfl, B1.out⟩
  · have d50 : decide (50 < (len1 : Int)) = false := by simp; omega
    go_wp2_with fail
    clear d50
    refine (cnew_any B1.out (n0 : Int) N HN.out.1).mono ?_
    rintro e w2 ⟨s, a, b, c, Q0, rfl, h2, _, _, _⟩
    have H2 := Lib.hid h2
    clear h2
    go_wp2_with fail
    refine (cspace_any H2.out).mono ?_
    rintro e w3 ⟨rfl, b3⟩
    have H3 := Lib.hid (H2.out.below b3)
    clear b3 H2
    go_wp2_with fail
    refine (st_size H3.out.st).mono ?_
    rintro e w4 ⟨rfl, rfl⟩
    have H4 := Lib.hid (show ApS w w3 s a b c N (100 * 0) 0 0 none (St.new N) Q0 (fun _ => False) [] ∧ (St.new N).u ≤ 10 * 0 from ⟨⟨H3.out, Lst.none' _ _ _ _ _ _, fun x hx => (rowD_none x hx).elim, Inv.new N (by have := HN.out; omega)⟩, by simp [St.new]⟩)
    clear H3
    go_wp2_with fail
    go_loopw [8, 9] (fun sl i wr => ∃ (j t cc : Nat) (A : Option Addr) (Z : St) (Q D : Nat → Prop) (G : List M.R), j ≤ len1 ∧ t ≤ j ∧ i = .int .i64 (j : Int) ∧ sl = .slice A t cc ∧ Hid (ApS w wr s a b c N (100 * j) t cc A Z Q D G ∧ Z.u ≤ 10 * j)) (fun _ i _ => len1 - (intOf i).toNat)
    case atStart => exact ⟨0, 0, 0, none, _, _, _, [], by omega, by omega, rfl, rfl, H4⟩
    case round =>
      clear H4
      obtain ⟨j, t, cc, A, Z, Q, D, G, hj, htj, rfl, rfl, HI⟩ := hrel
      by_cases hlt : j < len1
      · have hjl : j < L.length := by have := HA.out.1; omega
        obtain ⟨bl, o, rfl, hc⟩ := HA.out.2 (by omega)
        have ha := (hc j hjl).keep HI.out.1.chk.bel
        obtain ⟨x, hx⟩ : ∃ x, x = L[j] := ⟨_, rfl⟩
        rw [← hx] at ha
        have HX := Lib.hid (show x.d < 256 ∧ (-9223372036854775808 ≤ x.p ∧ x.p ≤ 9223372036854775807) ∧ (-9223372036854775808 ≤ x.k ∧ x.k ≤ 9223372036854775807) ∧ x.o < 18446744073709551616 ∧ x.i < 256 from ⟨ha.d8, ha.pr, ha.kr, ha.or, ha.ir⟩)
        have HV := ApV.new HI.out.1 HX.out
        have e0 := ha.c0
        have e1 := ha.c1
        have e2 := ha.c2
        have e3 := ha.c3
        have e4 := ha.c4
        obtain ⟨d, p, kd, ow, ix⟩ := x
        simp only at e0 e1 e2 e3 e4 HX HV
        have HR := Lib.hid (show j < 50 ∧ t ≤ j from ⟨by omega, htj⟩)
        have HU := Lib.hid HI.out.2
        obtain ⟨wa, hwa⟩ : ∃ wa, wa = wr.alloc (.cells #[.int .u8 (d : Int), .int .i64 p, .int .i64 kd, .int .u64 (ow : Int), .int .u8 (ix : Int)] 32) := ⟨_, rfl⟩
        rw [← hwa] at HV
        clear hc hx ha htj HI
        go_upto_region 13 with fail
        rw [← hwa]
        generalize wr.heap.size = y at *
        have HV := Lib.hid (And.intro HV HU.out)
        clear hwa e0 e1 e2 e3 e4 HU
        have a0 := HV.out.1.act.c0
        simp only at a0
        go_upto_if 48 with fail
        go_cut [8, 11, 12, 13, 14, 15] (fun v8 v11 v12 v13 v14 v15 wx => ∃ (t1 cc1 : Nat) (A1 : Option Addr) (Z1 : St) (Q1 D1 : Nat → Prop) (G1 : List M.R), t1 ≤ j + 1 ∧ v8 = .slice A1 t1 cc1 ∧ Hid (ApV w wx s a b c N (100 * j + 30) t1 cc1 A1 Z1 Q1 D1 G1 y ⟨d, p, kd, ow, ix⟩ ∧ Z1.u ≤ 10 * j + 2))
        case first =>
          rcases Nat.eq_zero_or_pos d with hd | hd
          · subst hd
            have a1 := HV.out.1.act.c1
            have a2 := HV.out.1.act.c2
            have a3 := HV.out.1.act.c3
            simp only [Nat.zero_add] at a1 a2 a3
            have HG := Lib.hid (HV.out.1.ap.inv.gt (by have := HN.out; omega) p kd ow HX.out.2.2.2.1)
            go_wp2_with fail
            refine (cgetA_any HV.out.1.ap.chk (by have := HR.out; omega) (by have := HV.out.2; have := HR.out; omega) HV.out.1.ap.inv p kd ow HX.out.2.2.2.1).mono ?_
            rintro e w4 ⟨rfl, h4, k4⟩
            have hq4 : ¬ Wid Q wa w4 y := fun e => e.elim HV.out.1.qy (fun e => by have := HV.out.1.act.lt; omega)
            have H4 := Lib.hid (show Chk D w w4 s a b c N (Z.gt N p kd ow) (Wid Q wa w4) (100 * j + 30) ∧ Lst w4 37 2 w.heap.size A t cc (rc G) (Wid Q wa w4) s ∧ IsAct w4 y 0 ⟨0, p, kd, ow, ix⟩ ∧ ¬ Wid Q wa w4 y from ⟨h4, HV.out.1.ap.lst.call k4, HV.out.1.act.kept k4 HV.out.1.qy, hq4⟩)
            clear h4 k4 hq4 a0 a1 a2 a3
            generalize Wid Q wa w4 = Q4 at *
            have a1 := H4.out.2.2.1.c1
            have a2 := H4.out.2.2.1.c2
            have a3 := H4.out.2.2.1.c3
            simp only [Nat.zero_add] at a1 a2 a3
            obtain ⟨p4, hp4⟩ : ∃ p4, p4 = gtP N Z p kd := ⟨_, rfl⟩
            obtain ⟨n4, hn4⟩ : ∃ n4, n4 = gtN N Z p kd := ⟨_, rfl⟩
            obtain ⟨e4, he4⟩ : ∃ e4, e4 = gtE N Z p kd := ⟨_, rfl⟩
            obtain ⟨Z4, hZ4⟩ : ∃ Z4, Z4 = Z.gt N p kd ow := ⟨_, rfl⟩
            rw [← hp4, ← hn4, ← he4, ← hZ4] at HG
            rw [← hZ4] at H4
            rw [← hp4, ← hn4, ← he4]
            clear hp4 hn4 he4 hZ4
            rcases HG.out with ⟨hE, hI, hS, hge, hk0, hu⟩ | ⟨hE, _, _, hI, hu⟩
            · subst hE
              have hin := hI.in (List.mem_cons_self ..)
              simp only at hin
              have HQ := Lib.hid (show p4 = (p4.toNat : Int) ∧ p4.toNat < N ∧ n4 = (n4.toNat : Int) ∧ kd = (kd.toNat : Int) from ⟨by omega, by omega, by omega, by omega⟩)
              have HGG := Lib.hid (And.intro hI (And.intro hS hu))
              have hlt4 : ¬ n4 < p := by omega
              have ht50 : t ≤ 50 := by have := HR.out; omega
              obtain ⟨i3, hi, hi0, hi1, hi2⟩ := info36
              have HI3 := Lib.hid (And.intro hi (And.intro hi0 (And.intro hi1 hi2)))
              have hb5 : Below w4.heap.size w4 (w4.alloc (.cells #[.int .i64 p4, .int .i64 n4] 37)) := (Below.refl _ _).alloc (Nat.le_refl _) _
              have HC5 := Lib.hid (show Chk D w (w4.alloc (.cells #[.int .i64 p4, .int .i64 n4] 37)) s a b c N Z4 Q4 (100 * j + 30) ∧ Lst (w4.alloc (.cells #[.int .i64 p4, .int .i64 n4] 37)) 37 2 w.heap.size A t cc (rc G) Q4 s ∧ IsAct (w4.alloc (.cells #[.int .i64 p4, .int .i64 n4] 37)) y 0 ⟨0, p, kd, ow, ix⟩ from ⟨H4.out.1.below hb5, H4.out.2.1.below hb5, H4.out.2.2.1.keep hb5⟩)
              have SZ := Lib.hid HC5.out.1.bel.size
              have hay := HV.out.1.ay
              have HLT := Lib.hid hlt4
              clear hin hI hS hu hge hk0 hb5 hi hi0 hi1 hi2 a1 a2 a3
              go_upto_region 17 with (at_builtin; refine wpList_append_lies _ rfl _ _ 29 rfl w.heap.size 37 i3 (.agg #[.int .i64 0, .int .i64 0]) 2 16 Try.underlying29 HI3.out.1 HI3.out.2.1 HI3.out.2.2.1 HI3.out.2.2.2 rfl (by decide) (.slice A t cc) t (rc G) rfl HC5.out.2.1.row ⟨w4.heap.size, 0, none⟩ 1 1 (rc [⟨p4, n4⟩]) rfl rfl (run_cell10 w4 p4 n4) (rc_one _) (by omega) (by unfold maxLen; omega) (by omega) SZ.out _ rfl ?_; intro g1 c1 w5 hrow hgr hat hlt5; (have HS := Lib.hid (ap_app HC5.out.1 HC5.out.2.1 HV.out.1.ap.dA HC5.out.2.2 hay hrow hgr hat hlt5 HGG.out.1)); clear hrow hgr hat hlt5)
              clear hlt4
              go_wp2_with fail
              refine (cspace_any HS.out.1.chk).mono ?_
              rintro e w6 ⟨rfl, b6⟩
              have H6 := Lib.hid (show ApV w w6 s a b c N (100 * j + 30) (t + 1) c1 (some ⟨g1, 0, none⟩) Z4 Q4 (fun x => D x ∨ x = g1) (G ++ [⟨p4, n4⟩]) y ⟨0, p, kd, ow, ix⟩ from ⟨HS.out.1.below b6, HS.out.2.1.keep b6, H4.out.2.2.2, HS.out.2.2⟩)
              clear b6 HC5 HS hay
              go_wp2_with fail
              refine (st_read H6.out.ap.chk.st p4 p4.toNat n4.toNat kd.toNat ow 0 HQ.out.1 HQ.out.2.1 HGG.out.2.1 (by have := HGG.out.2.2; have := HV.out.2; have := HR.out; omega)).mono ?_
              rintro e w7 ⟨rfl, h7, k7⟩
              rw [← HQ.out.2.2.1, ← HQ.out.2.2.2]
              have H7 := Lib.hid (H6.out.call (H6.out.ap.chk.next h7 k7 (fun x e => e.imp id (fun e => e.1))) k7 (H6.out.ap.inv.read (Z4.u + 1)))
              clear h7 k7 H6 H4
              generalize Wid Q4 w6 w7 = Q7 at *
              obtain ⟨w8, hw8⟩ : ∃ w8, w8 = w7.alloc (.cells #[.int .i64 n4, .int .i64 kd, .int .u64 (ow : Int), .int .u64 0] 39) := ⟨_, rfl⟩
              have b8 : Below w7.heap.size w7 w8 := by rw [hw8]; exact (Below.refl _ _).alloc (Nat.le_refl _) _
              have Y8 : Box4 w8 w7.heap.size (.int .i64 n4) (.int .i64 kd) (.int .u64 (ow : Int)) (.int .u64 0) := by rw [hw8]; exact Box4.new _ _ _ _ _ _
              have H8 := Lib.hid (H7.out.below b8)
              go_upto_region 18 with fail
              rw [← hw8]
              generalize w7.heap.size = y8 at *
              clear hw8 b8 H7
              have x0 := Y8.c0
              have x1 := Y8.c1
              have x2 := Y8.c2
              have x3 := Y8.c3
              have a1 := H8.out.act.c1
              have a2 := H8.out.act.c2
              have a3 := H8.out.act.c3
              simp only [Nat.zero_add] at a1 a2 a3
              have hlt4 : decide (n4 < p) = false := by have := HLT.out; simp; omega
              go_wp2_with fail
              go_meet
              exact ⟨t + 1, c1, _, _, _, _, _, by have := HR.out; omega, rfl, H8.out, by show Z4.u + 1 ≤ _; have := HGG.out.2.2; have := HV.out.2; omega⟩
            · have H5 := Lib.hid (show ApV w w4 s a b c N (100 * j + 30) t cc A Z4 Q4 D G y ⟨0, p, kd, ow, ix⟩ ∧ Z4.u ≤ 10 * j + 2 from ⟨⟨⟨H4.out.1, H4.out.2.1, HV.out.1.ap.dA, hI⟩, H4.out.2.2.1, H4.out.2.2.2, HV.out.1.ay⟩, by have := HV.out.2; omega⟩)
              have t0 : (e4 == 0) = false := by simp; omega
              clear hE hI hu a1 a2 a3
              go_wp2_with fail
              go_meet
              exact ⟨t, cc, _, _, _, _, _, by have := HR.out; omega, rfl, H5⟩
          · have t0 : ((d : Int) == 0) = false := by simp; omega
            go_wp2_with fail
            go_meet
            exact ⟨t, cc, _, _, _, _, _, by have := HR.out; omega, rfl, HV.out.1.more (by omega), by have := HV.out.2; omega⟩
        case rest =>
          obtain ⟨t1, cc1, A1, Z1, Q1, D1, G1, ht1, rfl, HW⟩ := hcut
          clear HV a0
          generalize wc = wb at *
          have a0 := HW.out.1.act.c0
          simp only at a0
          obtain ⟨bb, hbb⟩ : ∃ bb, bb = decide (d = 1 ∧ 0 < t1) := ⟨_, rfl⟩
          have HBB := Lib.hid hbb
          clear hbb
          go_upto_region 20 with fail
          go_cut [101] (fun v wx => v = .bool bb ∧ wx = wb)
          case first =>
            by_cases h1 : d = 1
            · subst h1
              rcases Nat.eq_zero_or_pos t1 with h2 | h2
              · subst h2
                go_wp2_with fail
                go_meet
                exact ⟨by rw [HBB.out]; rfl, rfl⟩
              · go_wp2_with fail
                go_meet
                exact ⟨by rw [HBB.out]; simp [h2], rfl⟩
            · have t0 : ((d : Int) == 1) = false := by simp; omega
              go_wp2_with fail
              go_meet
              exact ⟨by rw [HBB.out]; simp [h1], rfl⟩
          case rest =>
            obtain ⟨rfl, hw⟩ := hcut
            have hw := hw.symm
            subst hw
            go_upto_if 101 with fail
            go_cut [8, 16, 17] (fun v8 v16 v17 wx => ∃ (t2 cc2 : Nat) (A2 : Option Addr) (Z2 : St) (Q2 D2 : Nat → Prop) (G2 : List M.R), t2 ≤ j + 1 ∧ v8 = .slice A2 t2 cc2 ∧ Hid (ApV w wx s a b c N (100 * j + 31) t2 cc2 A2 Z2 Q2 D2 G2 y ⟨d, p, kd, ow, ix⟩ ∧ Z2.u ≤ 10 * j + 5))
            case first =>
              cases bb with
              | false =>
                go_wp2_with fail
                go_meet
                exact ⟨t1, cc1, _, _, _, _, _, ht1, rfl, HW.out.1.more (by omega), by have := HW.out.2; omega⟩
              | true =>
                have hd1 : d = 1 ∧ 0 < t1 := by have := HBB.out; simpa using this.symm
                have htl := HW.out.1.ap.tl
                obtain ⟨q, hq⟩ : ∃ q, q = ix % t1 := ⟨_, rfl⟩
                have hqt : q < t1 := by rw [hq]; exact Nat.mod_lt _ hd1.2
                have hrem : (ix : Int).tmod (t1 : Int) = (q : Int) := by rw [hq]; rfl
                have hrem2 : (ix : Int) % (t1 : Int) = (q : Int) := by rw [hq]; rfl
                have hz : ((t1 : Int) == 0) = false := by simp; omega
                have hix : ix < 256 := HX.out.2.2.2.2
                have hql : q < G1.length := by omega
                have hrr := row_runs HW.out.1.ap.lst.row
                obtain ⟨bg, og, hA1, hcg⟩ := hrr.1 (by omega)
                subst hA1
                have d0 := (hcg q hql).1
                have hperm := perm_at q hql
                have hI := HW.out.1.ap.inv.perm hperm
                obtain ⟨rp, hrp⟩ : ∃ rp, rp = G1[q].p := ⟨_, rfl⟩
                obtain ⟨rn, hrn⟩ : ∃ rn, rn = G1[q].n := ⟨_, rfl⟩
                have HI := Lib.hid (show Inv N Z1 (⟨rp, rn⟩ :: (G1.take q ++ G1.drop (q + 1))) by rw [hrp, hrn]; exact hI)
                rw [← hrp] at d0
                have a4 := HW.out.1.act.c4
                simp only [Nat.zero_add] at a4
                have HQ := Lib.hid (show q < t1 ∧ t1 ≤ 51 ∧ t1 = G1.length from ⟨hqt, by have := HR.out; omega, htl⟩)
                have hq51 : q < t1 ∧ t1 ≤ 51 := ⟨HQ.out.1, HQ.out.2.1⟩
                have HT1 := Lib.hid ht1
                clear hrr hcg hperm hI hrp hrn hq hqt htl hql hd1
                go_wp2_with fail
                refine (cput_any HW.out.1.ap.chk (by have := HR.out; omega) (by have := HW.out.2; have := HR.out; omega) rp rn HI.out).mono ?_
                rintro e w5 ⟨rfl, h5, k5⟩
                have hq5 : ¬ Wid Q1 wb w5 y := fun e => e.elim HW.out.1.qy (fun e => by have := HW.out.1.act.lt; omega)
                have H5 := Lib.hid (show Chk D1 w w5 s a b c N (Z1.put N rp rn) (Wid Q1 wb w5) (100 * j + 31) ∧ Lst w5 37 2 w.heap.size (some ⟨bg, og, none⟩) t1 cc1 (rc G1) (Wid Q1 wb w5) s ∧ IsAct w5 y 0 ⟨d, p, kd, ow, ix⟩ ∧ ¬ Wid Q1 wb w5 y ∧ Inv N (Z1.put N rp rn) (G1.take q ++ G1.drop (q + 1)) from ⟨h5, HW.out.1.ap.lst.call k5, HW.out.1.act.kept k5 HW.out.1.qy, hq5, HI.out.put.1⟩)
                clear h5 k5 hq5 d0 a4 hrem hrem2 hz hix
                generalize Wid Q1 wb w5 = Q5 at *
                have hcap : t1 ≤ cc1 := (row_cap H5.out.2.1.row).elim id (fun e => by omega)
                have ap1 := fun W => rcut10_to bg og t1 cc1 q (by omega) W
                obtain ⟨A2, hA2, hA2e⟩ := rcut10_from bg og t1 cc1 (q + 1) (by omega) hcap
                have ap2 : ∀ W, (Instr.slice 29 (.slice (some ⟨bg, og, none⟩) t1 cc1) (some (.int .i64 ((q : Int) + 1))) none none).run Try.prog W = .ok (.slice A2 (t1 - (q + 1)) (cc1 - (q + 1))) W := fun W => hA2 W
                have hR5 := row_runs H5.out.2.1.row
                have HM := Lib.hid (show q = (G1.take q).length ∧ t1 - (q + 1) = (G1.drop (q + 1)).length ∧ q ≤ 1000000 ∧ q + (t1 - (q + 1)) ≤ 1000000 ∧ q + (t1 - (q + 1)) ≤ j + 1 from ⟨by rw [List.length_take]; omega, by rw [List.length_drop]; omega, by omega, by omega, by have := HT1.out; omega⟩)
                have HRT := Lib.hid (show Runs w5 (some ⟨bg, og, none⟩) (G1.take q) from runs_take hR5.1 q)
                have HRD := Lib.hid (show Runs w5 A2 (G1.drop (q + 1)) from fun hl => by
                  have := runs_drop hR5.1 (q + 1)
                  rw [hA2e (by simp at hl; omega)]
                  exact this hl)
                clear hA2 hA2e hR5 hcap
                go_upto_region 26 with (at_builtin; refine wpList_app_nil rfl _ _ rfl w5 rfl (some ⟨bg, og, none⟩) q cc1 (G1.take q) rfl HM.out.1 HRT.out HM.out.2.2.1 ?_; intro A6 c6 w6 hrow hb6; (have H6 := Lib.hid (And.intro hrow hb6)); clear hrow hb6)
                have HRD6 := Lib.hid (HRD.out.below H6.out.2)
                have SZ6 := Lib.hid H6.out.2.size
                go_wp2_with (at_builtin; refine wpList_app_runs rfl _ _ rfl w6 w5.heap.size A6 q c6 (G1.take q) rfl H6.out.1 A2 (t1 - (q + 1)) (cc1 - (q + 1)) (G1.drop (q + 1)) rfl HM.out.2.1 HRD6.out HM.out.2.2.2.1 SZ6.out ?_; intro A7 c7 w7 hrow hgr; (have H7 := Lib.hid (And.intro hrow (below_call' H6.out.2 (below_app H6.out.1 hgr SZ6.out)))); clear hrow hgr)
                go_meet
                exact ⟨q + (t1 - (q + 1)), c7, _, _, _, _, _, HM.out.2.2.2.2, rfl, ap_swap H5.out.1 H5.out.2.2.1 H5.out.2.2.2.1 H7.out.2 H7.out.1 H5.out.2.2.2.2, by show Z1.u + 3 ≤ _; have := HW.out.2; omega⟩
            case rest =>
              obtain ⟨t2, cc2, A2, Z2, Q2, D2, G2, ht2, rfl, HW2⟩ := hcut
              clear HW a0 HBB
              generalize wc = wd at *
              have a0 := HW2.out.1.act.c0
              simp only at a0
              go_upto_if 129 with fail
              go_cut [] (fun wx => ∃ (Z3 : St) (Q3 : Nat → Prop), Hid (ApV w wx s a b c N (100 * j + 59) t2 cc2 A2 Z3 Q3 D2 G2 y ⟨d, p, kd, ow, ix⟩ ∧ Z3.u ≤ 10 * j + 5))
              case first =>
                by_cases hd : 1 < d
                · have t0 : decide (1 < (d : Int)) = true := by simp; omega
                  go_wp2_with fail
                  refine (ctrim_any HW2.out.1.ap.chk (by have := HR.out; omega) HW2.out.1.ap.inv.low).mono ?_
                  rintro e w5 ⟨rfl, h5, k5⟩
                  have H5 := Lib.hid (HW2.out.1.call h5 k5 HW2.out.1.ap.inv.trim)
                  clear h5 k5
                  go_wp2_with fail
                  go_meet
                  exact ⟨_, _, H5.out.more (by omega), HW2.out.2⟩
                · have t0 : decide (1 < (d : Int)) = false := by simp; omega
                  go_wp2_with fail
                  go_meet
                  exact ⟨_, _, HW2.out.1.more (by omega), HW2.out.2⟩
              case rest =>
                obtain ⟨Z3, Q3, HW3⟩ := hcut
                clear HW2 a0
                generalize wc = wm at *
                have hok := HW3.out.1.ap.inv.pt.ok
                have hlen := M.len_le hok (by omega)
                have hK := M.all_length HW3.out.1.ap.inv.good
                have HS := Lib.hid (show ApS w wm s a b c N (100 * j + 59) t2 cc2 A2 Z3 Q3 D2 G2 ∧ Z3.u ≤ 10 * j + 5 from ⟨HW3.out.1.ap, HW3.out.2⟩)
                have HM := Lib.hid (show t2 = G2.length ∧ t2 ≤ 51 ∧ Z3.l.length ≤ 300 ∧ (M.all Z3.K).length ≤ 28 ∧ t2 ≤ j + 1 from ⟨HW3.out.1.ap.tl, by have := HR.out; omega, by have := HN.out; omega, hK, ht2⟩)
                have HRG := Lib.hid (row_runs HS.out.1.lst.row).1
                clear hok hlen hK HW3 ht2
                go_upto_region 31 with (at_builtin; refine wpList_app_nil rfl _ _ rfl wm rfl A2 t2 cc2 G2 rfl HM.out.1 HRG.out (by have := HM.out; omega) ?_; intro A5 c5 w5 hrow hb5; (have H5 := Lib.hid (And.intro hrow hb5)); clear hrow hb5)
                go_wp2_with fail
                refine (cruns_any (HS.out.1.chk.below H5.out.2)).mono ?_
                rintro e w6 ⟨A6, t6, c6, rfl, ht6, hR6, hb6⟩
                have HB6 := Lib.hid (show Below wm.heap.size wm w6 ∧ wm.heap.size ≤ w6.heap.size from ⟨below_call H5.out.2 hb6, Nat.le_trans H5.out.2.size hb6.size⟩)
                have HR6 := Lib.hid (show t6 = Z3.l.length ∧ Runs w6 A6 Z3.l ∧ t2 + t6 ≤ 400 from ⟨ht6, hR6, by have := HM.out; omega⟩)
                have HO6 := Lib.hid (row_kept H5.out.1 (Kept.of_below hb6 (fun _ => False)) (fun _ _ e => e))
                clear ht6 hR6 hb6
                go_upto_region 32 with (at_builtin; refine wpList_app_runs rfl _ _ rfl w6 wm.heap.size A5 t2 c5 G2 rfl HO6.out A6 t6 c6 Z3.l rfl HR6.out.1 HR6.out.2.1 (by have := HR6.out; omega) HB6.out.2 ?_; intro A7 c7 w7 hrow hgr; (have H7 := Lib.hid (And.intro hrow (below_call' HB6.out.1 (below_app HO6.out hgr HB6.out.2)))); clear hrow hgr)
                go_wp2_with fail
                refine (ccached_any (HS.out.1.chk.below H7.out.2)).mono ?_
                rintro e w8 ⟨g8, t8, rfl, ht8, _, hR8, _, hb8⟩
                have HB8 := Lib.hid (show Below wm.heap.size wm w8 ∧ wm.heap.size ≤ w8.heap.size from ⟨below_call H7.out.2 hb8, Nat.le_trans H7.out.2.size hb8.size⟩)
                have HR8 := Lib.hid (show t8 = (M.all Z3.K).length ∧ Runs w8 (some ⟨g8, 0, none⟩) (M.all Z3.K) ∧ t2 + t6 + t8 ≤ 500 from ⟨ht8, hR8, by have := HM.out; have := HR6.out; omega⟩)
                have HO8 := Lib.hid (row_kept H7.out.1 (Kept.of_below hb8 (fun _ => False)) (fun _ _ e => e))
                clear ht8 hR8 hb8
                go_upto_region 33 with (at_builtin; refine wpList_app_runs rfl _ _ rfl w8 wm.heap.size A7 (t2 + t6) c7 (G2 ++ Z3.l) rfl HO8.out (some ⟨g8, 0, none⟩) t8 28 (M.all Z3.K) rfl HR8.out.1 HR8.out.2.1 (by have := HR8.out; omega) HB8.out.2 ?_; intro A9 c9 w9 hrow hgr; (have H9 := Lib.hid (And.intro hrow (below_call' HB8.out.1 (below_app HO8.out hgr HB8.out.2)))); clear hrow hgr)
                obtain ⟨LL, hLL⟩ : ∃ LL, LL = G2 ++ Z3.l ++ M.all Z3.K := ⟨_, rfl⟩
                obtain ⟨tl, htl⟩ : ∃ tl, tl = t2 + t6 + t8 := ⟨_, rfl⟩
                rw [← htl] at HR8 H9 ⊢
                rw [← hLL] at H9
                have hrl := row_runs H9.out.1
                have HPT := Lib.hid (show Pt N [] LL from by rw [hLL]; exact apart_pt HS.out.1.inv)
                have HL9 := Lib.hid (show Runs w9 A9 LL ∧ tl = LL.length ∧ tl ≤ 500 from ⟨hrl.1, hrl.2, HR8.out.2.2⟩)
                have HD9 := Lib.hid (show ∀ ad, A9 = some ad → ad.block < w9.heap.size from fun ad e => (row_low H9.out.1 ⟨ad, e, rfl⟩).2)
                have HB9 := Lib.hid (show Below wm.heap.size wm w9 ∧ wm.heap.size ≤ w9.heap.size from ⟨H9.out.2, H9.out.2.size⟩)
                have mk := make_ba w9 N (by have := HN.out; omega)
                clear hLL htl hrl H5 H7 HR6 HO6 HO8 HB6 HB8 HRG
                go_upto_region 34 with fail
                obtain ⟨wi, hwi⟩ : ∃ wi, wi = w9.alloc (.cells (madeCells #[.bool false] N) 4) := ⟨_, rfl⟩
                have hba := ba_made w9 N
                rw [← hwi] at hba ⊢
                have hbi : Below w9.heap.size w9 wi := by rw [hwi]; exact (Below.refl _ _).alloc (Nat.le_refl _) _
                have HG := Lib.hid (show (∀ ad, A9 = some ad → ad.block ≠ w9.heap.size) ∧ wm.heap.size ≤ w9.heap.size from ⟨fun ad e => by have := HD9.out ad e; omega, HB9.out.2⟩)
                have HI0 := Lib.hid (show Below wm.heap.size wm wi ∧ Runs wi A9 LL ∧ BA wi w9.heap.size N (mkd (LL.take 0) 0 0) from ⟨below_call' HB9.out.1 (hbi.mono HB9.out.2), HL9.out.1.below hbi, by rw [List.take_zero, mkd_nil]; exact hba⟩)
                generalize w9.heap.size = gi at *
                have HLL := Lib.hid (show tl = LL.length ∧ tl ≤ 500 from HL9.out.2)
                clear hwi hba hbi mk HL9 HD9 HB9 H9 HR8
                go_wp2_with fail
                go_loopw [20, 21] (fun vn vk wr => ∃ (y : Nat) (nn : Int), y ≤ tl ∧ vk = .int .i64 (y : Int) ∧ vn = .int .i64 nn ∧ Hid (nn = M.total (LL.take y) ∧ Below wm.heap.size wm wr ∧ Runs wr A9 LL ∧ BA wr gi N (mkd (LL.take y) 0 0))) (fun _ vk _ => tl - (intOf vk).toNat)
                case atStart => exact ⟨0, 0, by omega, rfl, rfl, Lib.hid ⟨rfl, HI0.out⟩⟩
                case round =>
                  clear HI0
                  obtain ⟨v, nn, hv, rfl, rfl, HI⟩ := hrel
                  by_cases hvt : v < tl
                  · have hvl : v < LL.length := by have := HLL.out.1; omega
                    have hin := HPT.out.inn (List.getElem_mem hvl)
                    have htt := (apart_tot HPT.out).2 v hvl
                    have hnx := mkd_next (LL.take v) LL[v]
                    rw [← List.take_succ_eq_append_getElem hvl] at hnx
                    have hts := M.total_take_succ LL v hvl
                    have hap := fun i h0 hi => apart_at HPT.out v hvl i h0 hi
                    obtain ⟨b9, o9, hA9, hc9⟩ := HI.out.2.2.1 (by omega)
                    subst hA9
                    have HCC := Lib.hid (show ∀ W, Runs W (some ⟨b9, o9, none⟩) LL → W.cell? ⟨b9, o9 + v * 2, none⟩ = some (.int .i64 LL[v].p) ∧ W.cell? ⟨b9, o9 + v * 2 + 1, none⟩ = some (.int .i64 LL[v].n) from fun W hW => by
                      obtain ⟨b', o', e, hc⟩ := hW (by omega)
                      cases e
                      exact hc v hvl)
                    obtain ⟨pn, hpn⟩ : ∃ pn : Nat, LL[v].p = (pn : Int) := ⟨LL[v].p.toNat, by omega⟩
                    obtain ⟨q, hqn⟩ : ∃ q : Nat, LL[v].n = (q : Int) := ⟨LL[v].n.toNat, by omega⟩
                    rw [hpn, hqn] at HCC hin hnx
                    rw [hqn] at htt hts
                    rw [hpn, hqn] at hap
                    have HP := Lib.hid (show pn + q ≤ N ∧ N ≤ 255 ∧ 0 ≤ nn ∧ nn + q ≤ N ∧ v < 500 from ⟨by omega, HN.out.2.2, by rw [HI.out.1]; exact htt.1, by rw [HI.out.1]; exact htt.2, by have := HLL.out; omega⟩)
                    have HX2 := Lib.hid (show M.total (LL.take (v + 1)) = nn + (q : Int) ∧ mkd (LL.take v) pn q = mkd (LL.take (v + 1)) 0 0 from ⟨by rw [hts, HI.out.1], hnx⟩)
                    have HAP := Lib.hid hap
                    have HI2 := Lib.hid (show Below wm.heap.size wm wr ∧ Runs wr (some ⟨b9, o9, none⟩) LL ∧ BA wr gi N (mkd (LL.take v) pn ((0 : Nat) : Int)) from ⟨HI.out.2.1, HI.out.2.2.1, by have := mkd_zero (LL.take v) (pn : Int); rw [show ((0 : Nat) : Int) = 0 from rfl, this]; exact HI.out.2.2.2⟩)
                    clear hvl hin htt hnx hts hap hc9 hpn hqn HI
                    go_wp2_with fail
                    go_loopw [20, 22] (fun vn vj wr => ∃ (i : Nat) (mm : Int), i ≤ q ∧ vj = .int .i64 (i : Int) ∧ vn = .int .i64 mm ∧ Hid (mm = nn + (i : Int) ∧ Below wm.heap.size wm wr ∧ Runs wr (some ⟨b9, o9, none⟩) LL ∧ BA wr gi N (mkd (LL.take v) pn (i : Int)))) (fun _ vj _ => q - (intOf vj).toNat)
                    case atStart => exact ⟨0, nn, by omega, rfl, rfl, Lib.hid ⟨by simp, HI2.out⟩⟩
                    case round =>
                      clear HI2
                      obtain ⟨i, mm, hi, rfl, rfl, HJ⟩ := hrel
                      have d1 := (HCC.out _ HJ.out.2.2.1).1
                      have d2 := (HCC.out _ HJ.out.2.2.1).2
                      by_cases hiq : i < q
                      · obtain ⟨z, hz⟩ : ∃ z, z = pn + i := ⟨_, rfl⟩
                        have hzN : z < N := by have := HP.out; omega
                        have hf := (HAP.out (i : Int) (by omega) (by omega)).2.2 z (by omega)
                        have d0 := (HJ.out.2.2.2.cells z hzN).1
                        have d3 := (HJ.out.2.2.2.cells z hzN).2
                        rw [hf] at d0
                        have HST := Lib.hid (ba_step HJ.out.2.1 HJ.out.2.2.1 HJ.out.2.2.2 HG.out.1 HG.out.2 hzN (show (z : Int) = (pn : Int) + (i : Int) by omega))
                        have HWZ := Lib.hid (show wrap64 ((pn : Int) + (i : Int)) = (z : Int) by have := HP.out; unfold wrap64; omega)
                        have hmb : 0 ≤ mm ∧ mm ≤ 1000 := by have := HJ.out.1; have := HP.out; omega
                        have hq5 : i < 500 := by have := HP.out; omega
                        have HMM := Lib.hid (show mm + 1 = nn + ((i + 1 : Nat) : Int) by have := HJ.out.1; omega)
                        clear hf hz
                        have hwz : True → wrap64 ((pn : Int) + (i : Int)) = (z : Int) := fun _ => HWZ.out
                        go_wp2_with fail
                        clear hwz
                        go_roundw
                        case rel => exact ⟨i + 1, mm + 1, by omega, by go_num, by go_num, Lib.hid ⟨HMM.out, HST.out⟩⟩
                        case measure => simp [intOf]; omega
                      · have hiq2 : i = q := by omega
                        have HO := Lib.hid (show mm = M.total (LL.take (v + 1)) ∧ Below wm.heap.size wm wr ∧ Runs wr (some ⟨b9, o9, none⟩) LL ∧ BA wr gi N (mkd (LL.take (v + 1)) 0 0) from ⟨by rw [HX2.out.1, HJ.out.1, hiq2], HJ.out.2.1, HJ.out.2.2.1, by rw [← HX2.out.2, ← hiq2]; exact HJ.out.2.2.2⟩)
                        have hv5 : v < 500 := HP.out.2.2.2.2
                        clear hiq2 HJ
                        go_wp2_with fail
                        go_roundw
                        case rel => exact ⟨v + 1, mm, by omega, by go_num, rfl, HO⟩
                        case measure => simp [intOf]; omega
                  · have hvt2 : v = LL.length := by have := HLL.out.1; omega
                    have hnn : nn = (N : Int) := by rw [HI.out.1, hvt2, List.take_length]; exact (apart_tot HPT.out).1
                    have HE := Lib.hid (show ApS w wr s a b c N (100 * (j + 1)) t2 cc2 A2 Z3 Q3 D2 G2 ∧ Z3.u ≤ 10 * (j + 1) from ⟨(HS.out.1.below HI.out.2.1).more (by omega), by have := HS.out.2; omega⟩)
                    subst hnn
                    have hj50 : j < 50 := HR.out.1
                    clear HI hvt2
                    go_wp2_with fail
                    go_roundw
                    case rel => exact ⟨j + 1, t2, cc2, A2, _, _, _, _, by omega, by have := HM.out; omega, by go_num, rfl, HE⟩
                    case measure => simp [intOf]; omega
      · have hjn : j = len1 := by omega
        have HE := Lib.hid HI.out.1.chk.bel
        clear HI hjn
        go_wp2_with fail
        go_ret
        exact ⟨rfl, HE.out⟩

/-! The row's step. -/
set_option maxRecDepth 100000 in
theorem lifted (os : Os) (started : os.Started) (H : Type) (enc : TypeId × Value → H) :
    ReturnsInHanded {} Try.checked os 3 .any (Rows.chunkApartSpec.pre6 enc Try.prog Try.f3 Rows.chunkApartRow.domain false) (Rows.chunkApartSpec.post enc Try.prog Try.f3 false true false false) := by
  refine returnsInHanded_of_change (C := Try.checked) own started (by kernel_rfl) Try.func3
    (ChangeSpec.witness6 (enc := enc) (C := Try.checked) false ⟨#[], #[.int .u8 0, .slice none 0 0], []⟩ 8 (by kernel_rfl) (by kernel_rfl) (by kernel_rfl) (by kernel_rfl)) ?_
  intro W base args ds gs before hval0 hW hcnd _
  have hval : ∀ (j : Nat) t v, Try.f3.params[j]? = some t → args[j]? = some v → Value.okWide Try.prog W .any base t v := hval0
  have hW' := hW
  obtain ⟨p, q, hA0, hV, rfl, hfz, hnd⟩ := hW
  have hA : DataW.TrodAll enc Try.prog W 0 (fun _ => true) true Try.f3.params.toList args.toList ds p := hA0
  rw [Try.params3] at hA hval
  obtain ⟨v0, vs0, d0, ds0, p0, q0, hargs, rfl, rfl, h0, r0⟩ := trodAll_cons hA
  obtain ⟨v1, vs1, d1, ds1, p1, q1, rfl, rfl, rfl, h1, r1⟩ := trodAll_cons r0
  obtain ⟨rfl, rfl, rfl⟩ := trodAll_nil r1
  obtain rfl : args = #[v0, v1] := by cases args; simp_all
  obtain ⟨rfl, rfl⟩ := trodVars_none hV
  obtain ⟨a0, rfl, rfl, rfl, w0⟩ := open_int Try.underlying5 (hval 0 5 v0 rfl rfl) h0
  obtain ⟨a1, len1, cap1, rfl⟩ := okWide_slice Try.underlying22 (hval 1 22 v1 rfl rfl)
  have k1 := h1
  have lt1 : ∀ x ∈ p1, x.block < W.heap.size := by obtain ⟨m, hm⟩ := k1; exact DataW.trod_lt m _ _ _ hm
  have w1 : IsActs W a1 len1 := by
    obtain ⟨fuel, hf⟩ := h1
    obtain ⟨A, l, c, hcs, hw⟩ := acts_open hf
    simp [Value.cells] at hcs
    obtain ⟨rfl, rfl, rfl⟩ := hcs
    exact hw
  clear hA0 hval0
  refine (walk a0 a1 len1 cap1 W w0 w1).mono fun e W' ⟨he, bel⟩ => ?_
  subst he
  exact ⟨_, rfl, _, _, _, [], _, [], hW', trodAll_mk1 (shut_bool Try.underlying4 _), (trodAll_cons_mk (shut_int Try.underlying5 w0) (trodAll_cons_mk (Below.trod laidOut (by kernel_rfl) (of_decide_eq_true (by kernel_rfl)) k1 bel lt1) trodAll_mk0)), rfl, bel.frame _, fun h => by cases h⟩

theorem over : Rows.chunkApartRow.holds Try.pinned (OpenSpec.ofChange Rows.chunkApartSpec) :=
  OpenClaim.holds_of_wide 3 Try.f3 rfl rfl rfl rfl rfl rfl rfl ⟨rfl, rfl, rfl, rfl, rfl⟩ rfl rfl rfl rfl rfl (by kernel_rfl) Try.func3 (by kernel_rfl)
    (of_decide_eq_true (by kernel_rfl)) (by unfold Func.isWrapper; first | (rw [if_pos (by decide +kernel)]; kernel_rfl) | (rw [if_neg (by decide +kernel)]; exact ⟨rfl, rfl⟩))
    (fun os started H enc _ => lifted os started H enc)

/-- The statement. -/
theorem proved : Rows.ChunkApartSaid := over
#print axioms proved
end Go.Proofs.Ytmboibipabkhaaa.chunkApart
