/-
  TableHolds: each live handle has what was added or set last by it, as many as there are handles, and a table of other things is the same; for every input the law returns true, and the arguments read behind the call as they read before. No condition.
-/
import Derived.Test.YtbkdlblpoohliaaRows
import Derived.WalkKit
import Derived.ProofKit
import Derived.OpenShut
import Derived.ShutString
import Derived.ChangeOld
import Derived.Below
import Derived.Test.YtbkdlblpoohliaaH13
namespace Go.Proofs.Ytbkdlblpoohliaa.tableHolds
open Go.ChangeShapes Go.WideShapes Go.ChangeAt Go.RowKit
set_option linter.unusedVariables false

theorem own : ownKnob Try.prog.godebug = none := by kernel_rfl

open T13 Go.Deep

/-! The walk. -/
set_option maxRecDepth 20000 in
set_option maxHeartbeats 16000000 in
theorem walk (a0 : Option Addr) (len0 cap0 : Nat) (w : World) (w0 : IsActs w a0 len0) :
    Calls Try.prog 7 #[.slice a0 len0 cap0] w fun e w' => e = .returned (.bool true) ∧ Below w.heap.size w w' := by
  obtain ⟨hl63, L, hL, hActs⟩ := w0
  have HA := Lib.hid (And.intro hL hActs)
  have k1 := Lib.hid (show M.kOk 1 by decide)
  clear hActs hL
  go_enter Try.func7, Try.ntmps7
  go_wp2_with fail
  refine (awake_any _).mono ?_
  rintro e w1 ⟨rfl, b1⟩
  have B1 := Lib.hid b1
  clear b1
  by_cases h80 : 80 < len0
  · go_wp2_with fail
    go_ret
    exact ⟨rfl, B1.out⟩
  have d80 : decide (80 < (len0 : Int)) = false := by simp; omega
  go_wp2_with fail
  clear d80 hl63
  refine (TI.s_new B1.out 1).mono ?_
  rintro e w2 ⟨t, rfl, h2, _, _⟩
  have H2 := Lib.hid h2
  clear h2
  go_wp2_with fail
  refine (TA.s_new H2.out.bel 1).mono ?_
  rintro e w3 ⟨u, rfl, h3, b3, hu3⟩
  have H3 := Lib.hid (show Co13 w w3 t u M.Tt.new M.Tt.new (fun x => x = t) (fun x => x = u) (2 * 0) none 0 0 (hds (M.hnds 1 [])) none 0 0 (nums []) ∧ Pu13 M.Tt.new M.Tt.new [] [] [] 0 from ⟨⟨H2.out.below b3, h3, fun x hx hy => by have := H2.out.has.lt x hx; omega, Lst.none' _ _ _ _, fun x hx => absurd hx rowD_none, Lst.none' _ _ _ _, fun x hx => absurd hx rowD_none⟩, Pu13.new⟩)
  clear h3 b3 hu3 H2
  go_wp2_with fail
  go_loopw [6, 7, 8] (fun hv vv i wr => ∃ (j n c m d : Nat) (A V : Option Addr) (S : M.Tt TI.Th) (U : M.Tt TA.Th) (Q R : Nat → Prop) (lp sp : List (Nat × Nat)) (vs : List Int), j ≤ len0 ∧ i = .int .i64 (j : Int) ∧ hv = .slice A n c ∧ vv = .slice V m d ∧ n ≤ j ∧ m = n ∧ Hid (Co13 w wr t u S U Q R (2 * j) A n c (hds (M.hnds 1 lp)) V m d (nums vs) ∧ Pu13 S U lp sp vs j)) (fun _ _ i _ => len0 - (intOf i).toNat)
  case atStart => exact ⟨0, 0, 0, 0, 0, none, none, _, _, _, _, [], [], [], by omega, rfl, rfl, rfl, by omega, rfl, H3⟩
  case round =>
    clear H3
    obtain ⟨j, n, c, m, d, A, V, S, U, Q, R, lp, sp, vs, hj, rfl, rfl, rfl, hnj, hmn, HI⟩ := hrel
    subst hmn
    by_cases hlt : j < len0
    · have hjl : j < L.length := by have := HA.out.1; omega
      obtain ⟨bl, o, rfl, hc⟩ := HA.out.2 (by omega)
      have ha := (hc j hjl).keep HI.out.1.st.bel
      obtain ⟨x, hx⟩ : ∃ x, x = L[j] := ⟨_, rfl⟩
      rw [← hx] at ha
      have HX := Lib.hid (show x.d < 256 ∧ x.i < 256 ∧ x.h < 18446744073709551616 ∧ (-9223372036854775808 ≤ x.v ∧ x.v ≤ 9223372036854775807) from ⟨ha.d8, ha.i8, ha.h64, ha.vr⟩)
      have HV := Ca13.new HI.out.1 HX.out
      have e0 := ha.c0
      have e1 := ha.c1
      have e2 := ha.c2
      have e3 := ha.c3
      obtain ⟨dd, ix, hh, v⟩ := x
      simp only at e0 e1 e2 e3 HX HV
      have hj80 : j < 80 := by omega
      have HP := Lib.hid HI.out.2
      obtain ⟨wa, hwa⟩ : ∃ wa, wa = wr.alloc (.cells #[.int .u8 (dd : Int), .int .u8 (ix : Int), .int .u64 (hh : Int), .int .i64 v] 33) := ⟨_, rfl⟩
      rw [← hwa] at HV
      clear hc hx ha HI
      go_upto_region 14 with fail
      rw [← hwa]
      generalize wr.heap.size = y at *
      have HV := Lib.hid (And.intro HV HP.out)
      clear hwa e0 e1 e2 e3 HP
      have a0 := HV.out.1.act.c0
      simp only at a0
      go_upto_if 37 with fail
      go_cut [6, 7, 10] (fun v6 v7 _ wx => ∃ (n' c' d' : Nat) (A' V' : Option Addr) (S' : M.Tt TI.Th) (U' : M.Tt TA.Th) (Q' R' : Nat → Prop) (lp' : List (Nat × Nat)) (vs' : List Int), n' ≤ j + 1 ∧ v6 = .slice A' n' c' ∧ v7 = .slice V' n' d' ∧ Hid (Ca13 w wx t u S' U' Q' R' (2 * j + 2) A' n' c' (hds (M.hnds 1 lp')) V' n' d' (nums vs') y ⟨dd, ix, hh, v⟩ ∧ Pu13 S' U' lp' sp vs' (j + (if dd = 0 then 1 else 0))))
      case first =>
        rcases Nat.eq_zero_or_pos dd with hd | hd
        · have t0 : ((dd : Int) == 0) = true := by simp [hd]
          have HD := Lib.hid hd
          clear hd
          have a3 := HV.out.1.act.c3
          simp only [Nat.zero_add] at a3
          obtain ⟨p, hp⟩ : ∃ p, M.hpV 1 (S.at' : Int) (S.gn : Int) = p := ⟨_, rfl⟩
          have PP := M.Shut13.mk hp
          have PQ := M.Shut13.mk (show M.hpV 1 (U.at' : Int) (U.gn : Int) = p by rw [HV.out.2.mir.at', HV.out.2.mir.gn]; exact hp)
          clear hp
          go_wp2_with fail
          refine (TI.s_add HV.out.1.co.st (by omega) v k1.out).mono ?_
          rintro e w4 ⟨rfl, h4, kk4⟩
          rw [PP.out]
          have H4 := Lib.hid (HV.out.1.callT h4 kk4 (by omega))
          clear h4 kk4 a3 a0
          go_wp2_with fail
          refine (TA.s_add H4.out.co.su (by omega) xy13 k1.out).mono ?_
          rintro e w5 ⟨rfl, h5, kk5⟩
          rw [PQ.out]
          have B5 := (Below.refl w5.heap.size w5).alloc (Nat.le_refl _) (.cells #[.int .u64 p] 31)
          have H5 := Lib.hid ((H4.out.callU h5 kk5 (by omega)).below B5)
          have LN := Lib.hid (lies_new w5 (.int .u64 p) 31)
          have hn6 : m ≤ 80 := by omega
          clear h5 kk5 B5
          go_upto_region 19 with (at_builtin; refine app_u rfl _ _ rfl _ w.heap.size A m c (hds (M.hnds 1 lp)) rfl H5.out.co.hl.row (some ⟨w5.heap.size, 0, none⟩) 1 1 [.int .u64 p] rfl rfl LN.out (hds_one [p]) (by omega) H5.out.co.st.bel.size ?_; intro A' c' w6 hrow hk6 hat; (have H6 := Lib.hid (H5.out.appA hk6 hrow hat)); clear hrow hk6 hat)
          have B6 := (Below.refl w6.heap.size w6).alloc (Nat.le_refl _) (.cells #[.int .i64 v] 3)
          have H7 := Lib.hid (H6.out.below B6)
          have LM := Lib.hid (lies_new w6 (.int .i64 v) 3)
          have a3 := H6.out.act.c3
          simp only [Nat.zero_add] at a3
          clear B6
          go_wp2_with (at_builtin; refine app_i rfl _ _ rfl _ w.heap.size V m d (nums vs) rfl H7.out.co.vl.row (some ⟨w6.heap.size, 0, none⟩) 1 1 [.int .i64 v] rfl rfl LM.out (nums_one [v]) (by omega) H7.out.co.st.bel.size ?_; intro V' d' w8 hrow hk8 hat; (have H8 := Lib.hid (H7.out.appV hk8 hrow hat)); clear hrow hk8 hat)
          go_meet
          have eH : hds (M.hnds 1 (lp ++ [(S.at', S.gn)])) = hds (M.hnds 1 lp) ++ [.int .u64 p] := by
            rw [M.hnds_append, show M.hnds 1 [(S.at', S.gn)] = [p] by show [M.hpV 1 _ _] = _; rw [PP.out], hds_append]
            rfl
          have eV : nums (vs ++ [v]) = nums vs ++ [.int .i64 v] := by simp [nums]
          have FIN := H8.out
          rw [← eH, ← eV] at FIN
          have PU := (HV.out.2.put HV.out.1.co.st.ok HV.out.1.co.su.ok v).more (show j ≤ j + (if dd = 0 then 1 else 0) by omega)
          exact ⟨m + 1, c', d', A', V', _, _, _, _, lp ++ [(S.at', S.gn)], vs ++ [v], by omega, rfl, rfl, Lib.hid ⟨FIN, PU⟩⟩
        · have t0 : ((dd : Int) == 0) = false := by simp; omega
          go_wp2_with fail
          go_meet
          exact ⟨m, c, d, A, V, S, U, Q, R, lp, vs, by omega, rfl, rfl, Lib.hid ⟨HV.out.1.more (by omega), HV.out.2.more (by omega)⟩⟩
      case rest =>
        obtain ⟨n', c1, d1, A1, V1, S1, U1, Q1, R1, lp1, vs1, hn1, rfl, rfl, HW⟩ := hcut
        clear HV a0
        generalize wc = wb at *
        obtain ⟨k, hk⟩ : ∃ k, k = j + (if dd = 0 then 1 else 0) := ⟨_, rfl⟩
        rw [← hk] at HW
        have hkj : k ≤ j + 1 := by rw [hk]; split <;> omega
        have hk3 : dd = 3 → k = j := fun e => by rw [hk, e]; rfl
        have HK3 := Lib.hid hk3
        have HPL := Lib.hid (show n' = lp1.length ∧ n' = vs1.length from by
          have h1 := hds_len HW.out.1.co.hl.row
          have h2 := nums_len HW.out.1.co.vl.row
          rw [M.hnds_length] at h1
          exact ⟨h1, h2⟩)
        clear hk hk3
        rcases Nat.eq_zero_or_pos n' with h0 | h0
        · subst h0
          go_wp2_with fail
          go_roundw
          case rel => exact ⟨j + 1, 0, c1, 0, d1, A1, V1, S1, U1, Q1, R1, lp1, sp, vs1, by omega, by go_num, rfl, rfl, by omega, rfl, Lib.hid ⟨HW.out.1.co.more (by omega), HW.out.2.more hkj⟩⟩
          case measure => simp [intOf]; omega
        · obtain ⟨n1, rfl⟩ : ∃ n1, n' = n1 + 1 := ⟨n' - 1, by omega⟩
          have a1 := HW.out.1.act.c1
          have hix := HW.out.1.act.i8
          simp only [Nat.zero_add] at a1 hix
          obtain ⟨q, hq⟩ : ∃ q, ix % (n1 + 1) = q := ⟨_, rfl⟩
          have hqn : q < n1 + 1 := by rw [← hq]; exact Nat.mod_lt _ h0
          have hrem : (ix : Int).tmod ((n1 : Int) + 1) = (q : Int) := by rw [← hq]; rfl
          obtain ⟨i1, g1, P, v0, hpr, hv0, hP, h64, hul, hsl, hus, hss⟩ := HW.out.2.live (Nat.le_trans HW.out.1.co.su.len (by omega)) (by omega) (q := q) (by have := HPL.out.1; omega)
          have HPR := Lib.hid (show lp1[q]? = some (i1, g1) ∧ M.hpV 1 (i1 : Int) (g1 : Int) = (P : Int) ∧ U1.liv 1 P = some i1 ∧ S1.liv 1 P = some i1 from ⟨hpr, hP, hul, hsl⟩)
          clear hq hpr hv0 hP hul hsl hus hss
          go_upto_region 22 with fail
          clear hrem a1 hix
          have a0 := HW.out.1.act.c0
          simp only at a0
          go_upto_if 67 with fail
          go_cut [] (fun wx => ∃ (S' : M.Tt TI.Th) (Q' : Nat → Prop) (vs' : List Int), Hid (Ca13 w wx t u S' U1 Q' R1 (2 * j + 2) A1 (n1 + 1) c1 (hds (M.hnds 1 lp1)) V1 (n1 + 1) d1 (nums vs') y ⟨dd, ix, hh, v⟩ ∧ Pu13 S' U1 lp1 sp vs' k))
          case first =>
            by_cases hd2 : dd = 2
            · have t0 : ((dd : Int) == 2) = true := by simp [hd2]
              have a3 := HW.out.1.act.c3
              simp only [Nat.zero_add] at a3
              obtain ⟨gv, rfl, hcv⟩ := num_cell HW.out.1.co.vl.row (j := q) (i := vs1[q]'(by have := HPL.out.2; omega)) (List.getElem?_eq_getElem _)
              have hfv := HW.out.1.co.vl.row.frozenAt q
              have H4 := Lib.hid (HW.out.1.setV q (.int .i64 v))
              clear hd2
              go_upto_region 24 with fail
              obtain ⟨w4, hw4⟩ : ∃ w4, w4 = wb.setCell ⟨gv, q, none⟩ (.int .i64 v) := ⟨_, rfl⟩
              rw [← hw4] at H4
              rw [← hw4]
              clear hcv hfv a3 a0 hw4
              have a3 := H4.out.act.c3
              simp only [Nat.zero_add] at a3
              have a3' : w4.drew.cell? ⟨y, 3, none⟩ = some (.int .i64 v) := a3
              obtain ⟨gh, rfl, hch⟩ := hd_cell H4.out.co.hl.row (M.hnds_at HPR.out.1)
              rw [HPR.out.2.1] at hch
              have hch' : w4.drew.cell? ⟨gh, q, none⟩ = some (.int .u64 (P : Int)) := hch
              have H5 := Lib.hid (show Ca13 w w4.drew t u S1 U1 Q1 R1 (2 * j + 2) (some ⟨gh, 0, none⟩) (n1 + 1) c1 (hds (M.hnds 1 lp1)) (some ⟨gv, 0, none⟩) (n1 + 1) d1 ((nums vs1).set q (.int .i64 v)) y ⟨dd, ix, hh, v⟩ from H4.out.below (Below.refl w4.heap.size w4).drew)
              have HC := Lib.hid (TI.s_set H5.out.co.st P h64 v)
              clear t0
              go_region_with (refine HC.out.mono ?_; rintro e w5 ⟨rfl, h5, kk5⟩; rw [HPR.out.2.2.2]; (have H6 := Lib.hid (H5.out.callT h5 kk5 (Nat.le_refl _))); clear h5 kk5)
              all_goals
                go_wp2_with fail
                go_meet
                have FIN := H6.out
                rw [show S1.setH 1 P v = S1.set i1 v by unfold M.Tt.setH; rw [HPR.out.2.2.2], ← nums_set] at FIN
                exact ⟨_, _, vs1.set q v, Lib.hid ⟨FIN, HW.out.2.set HPR.out.1 v⟩⟩
            · have t0 : ((dd : Int) == 2) = false := by simp; omega
              go_wp2_with fail
              go_meet
              exact ⟨S1, Q1, vs1, HW⟩
          case rest =>
            obtain ⟨S2, Q2, vs2, HY⟩ := hcut
            have HS2 := Lib.hid (show S2.liv 1 P = some i1 by rw [← HY.out.2.mir.liv]; exact HPR.out.2.2.1)
            have HL2 := Lib.hid (show n1 + 1 = vs2.length from nums_len HY.out.1.co.vl.row)
            clear HW a0
            generalize wc = wd at *
            have a0 := HY.out.1.act.c0
            simp only at a0
            by_cases hd3 : dd = 3
            · have t0 : ((dd : Int) == 3) = true := by simp [hd3]
              have hkk := HK3.out hd3
              have HKK := Lib.hid hkk
              clear hd3 hkk
              go_upto_region 27 with fail
              obtain ⟨gh, rfl, hch⟩ := hd_cell HY.out.1.co.hl.row (M.hnds_at HPR.out.1)
              rw [HPR.out.2.1] at hch
              go_wp2_with fail
              refine (TI.s_drop_some HY.out.1.co.st (by omega) P i1 h64 HS2.out).mono ?_
              rintro e w4 ⟨rfl, h4, kk4⟩
              have H4 := Lib.hid (HY.out.1.callT h4 kk4 (Nat.le_refl _))
              have hch4 : w4.cell? ⟨gh, q, none⟩ = some (.int .u64 (P : Int)) := kk4.cell_some hch (fun hq => HY.out.1.co.hl.off gh ⟨_, rfl, rfl⟩ hq)
              clear h4 kk4 hch a0 t0
              go_wp2_with fail
              refine (TA.s_drop_some H4.out.co.su (by omega) P i1 h64 HPR.out.2.2.1).mono ?_
              rintro e w5 ⟨rfl, h5, kk5⟩
              have H5 := Lib.hid (H4.out.callU h5 kk5 (Nat.le_refl _))
              clear h5 kk5 hch4
              have hlst : n1 < lp1.length := by have := HPL.out.1; omega
              obtain ⟨pl, hpl⟩ : ∃ pl, lp1[n1]? = some pl := ⟨_, List.getElem?_eq_getElem hlst⟩
              obtain ⟨gh', e', hcl⟩ := hd_cell H5.out.co.hl.row (M.hnds_at hpl)
              cases e'
              obtain ⟨z, hz⟩ : ∃ z, M.hpV 1 (pl.1 : Int) (pl.2 : Int) = z := ⟨_, rfl⟩
              rw [hz] at hcl
              have HSW := Lib.hid (swp_hds lp1 q n1 (.int .u64 z) (by have := HPL.out.1; omega) (hds_at (by rw [← hz]; exact M.hnds_at hpl)))
              obtain ⟨gq, eq', hcq⟩ := hd_cell H5.out.co.hl.row (M.hnds_at HPR.out.1)
              cases eq'
              have hfh := H5.out.co.hl.row.frozenAt q
              have H6 := Lib.hid (H5.out.setA q (.int .u64 z))
              clear hlst hpl hz
              go_upto_region 30 with fail
              obtain ⟨w6, hw6⟩ : ∃ w6, w6 = w5.setCell ⟨gh, q, none⟩ (.int .u64 z) := ⟨_, rfl⟩
              rw [← hw6] at H6
              rw [← hw6]
              clear hw6 hcl hcq hfh
              obtain ⟨gv, rfl, hcv⟩ := num_cell H6.out.co.vl.row (j := n1) (i := vs2[n1]'(by have := HL2.out; omega)) (List.getElem?_eq_getElem _)
              obtain ⟨gw, ew, hcw⟩ := num_cell H6.out.co.vl.row (j := q) (i := vs2[q]'(by have := HL2.out; omega)) (List.getElem?_eq_getElem _)
              cases ew
              obtain ⟨z2, hz2⟩ : ∃ z2, vs2[n1]'(by have := HL2.out; omega) = z2 := ⟨_, rfl⟩
              rw [hz2] at hcv
              have HSV := Lib.hid (swp_nums vs2 q n1 (.int .i64 z2) HL2.out (nums_at (by rw [← hz2]; exact List.getElem?_eq_getElem _)))
              have hfv := H6.out.co.vl.row.frozenAt q
              have H7 := Lib.hid (H6.out.setV q (.int .i64 z2))
              clear hz2
              go_upto_region 31 with fail
              obtain ⟨w7, hw7⟩ : ∃ w7, w7 = w6.setCell ⟨gv, q, none⟩ (.int .i64 z2) := ⟨_, rfl⟩
              rw [← hw7] at H7
              rw [← hw7]
              clear hw7 hcv hcw hfv
              have cutH := ucut13_to gh 0 (n1 + 1) c1 n1 (by have := row_cap H7.out.co.hl.row; omega)
              have cutV := icut13_to gv 0 (n1 + 1) d1 n1 (by have := row_cap H7.out.co.vl.row; omega)
              have H8 := Lib.hid (H7.out.takeA.takeV)
              rw [HSW.out, HSV.out] at H8
              rw [show ((n1 + 1 : Nat)) = n1 + 1 from rfl] at cutH cutV
              go_wp2_with fail
              go_roundw
              case rel => exact ⟨j + 1, n1, c1, n1, d1, _, _, _, _, _, _, M.swp lp1 q, sp ++ [(i1, g1)], M.swp vs2 q, by omega, by go_num, rfl, rfl, by omega, rfl, Lib.hid ⟨H8.out.co.more (by omega), (HY.out.2.drop HPR.out.1 (by omega)).more (by have := HKK.out; omega)⟩⟩
              case measure => simp [intOf]; omega
            · have t0 : ((dd : Int) == 3) = false := by simp; omega
              go_wp2_with fail
              go_roundw
              case rel => exact ⟨j + 1, n1 + 1, c1, n1 + 1, d1, A1, V1, S2, U1, Q2, R1, lp1, sp, vs2, by omega, by go_num, rfl, rfl, by omega, rfl, Lib.hid ⟨HY.out.1.co.more (by omega), HY.out.2.more hkj⟩⟩
              case measure => simp [intOf]; omega
    · have hj80 : j ≤ 80 := by omega
      have HPL := Lib.hid (show m = lp.length ∧ m = vs.length from by
          have h1 := hds_len HI.out.1.hl.row
          have h2 := nums_len HI.out.1.vl.row
          rw [M.hnds_length] at h1
          exact ⟨h1, h2⟩)
      go_wp2_with fail
      rename_i wo
      go_loopw [12] (fun i wx => ∃ (q : Nat), q ≤ m ∧ i = .int .i64 (q : Int) ∧ Hid (Co13 w wx t u S U Q R (2 * j) A m c (hds (M.hnds 1 lp)) V m d (nums vs) ∧ Pu13 S U lp sp vs j)) (fun i _ => m - (intOf i).toNat)
      case atStart => exact ⟨0, by omega, rfl, HI⟩
      case round =>
        clear HI
        obtain ⟨q, hq, rfl, HI⟩ := hrel
        by_cases hlq : q < m
        · obtain ⟨i1, g1, P, v0, hpr, hv0, hP, h64, hul, hsl, hus, hss⟩ := HI.out.2.live (Nat.le_trans HI.out.1.su.len (by omega)) (by omega) (q := q) (by have := HPL.out.1; omega)
          obtain ⟨gh, rfl, hch⟩ := hd_cell HI.out.1.hl.row (M.hnds_at hpr)
          rw [hP] at hch
          obtain ⟨gv, rfl, hcv⟩ := num_cell HI.out.1.vl.row hv0
          have hgt : S.get 1 P = some v0 := by unfold M.Tt.get; rw [hsl]; simp only [hss]; rfl
          have HG := Lib.hid (show S.get 1 P = some v0 ∧ S.liv 1 P = some i1 ∧ U.liv 1 P = some i1 ∧ U.s[i1]? = some ⟨true, g1, xy13⟩ from ⟨hgt, hsl, hul, hus⟩)
          clear hpr hv0 hP hul hsl hus hss hgt
          go_wp2_with fail
          refine (TI.s_get HI.out.1.st P h64).mono ?_
          rintro e w4 ⟨rfl, b4⟩
          rw [HG.out.1, HG.out.2.1]
          have H4 := Lib.hid (HI.out.1.below b4)
          have hch4 := (b4.cell (lt_of_cell hch)).trans hch
          have hcv4 := (b4.cell (lt_of_cell hcv)).trans hcv
          clear b4 hch hcv
          go_wp2_with fail
          refine (TA.s_get_some H4.out.su P i1 h64 HG.out.2.2.1 HG.out.2.2.2).mono ?_
          rintro e w5 ⟨rfl, b5⟩
          have H5 := Lib.hid (H4.out.below b5)
          have hcv5 := (b5.cell (lt_of_cell hcv4)).trans hcv4
          have B6 := (Below.refl w5.heap.size w5).alloc (Nat.le_refl _) (.cells #[.string ⟨#[120]⟩, .string ⟨#[121]⟩] 68)
          have H6 := Lib.hid (H5.out.below B6)
          have hcv6 := (B6.cell (lt_of_cell hcv5)).trans hcv5
          have eqq := eq_xy
          clear b5 hch4 hcv4 hcv5 B6
          go_wp2_with fail
          go_roundw
          case rel => exact ⟨q + 1, by omega, by go_num, Lib.hid ⟨H6.out, HI.out.2⟩⟩
          case measure => simp [intOf]; omega
        · have hcnt := HI.out.2.inv.cnt
          have hf := HI.out.2.mir.f
          have hlen := HI.out.2.mir.len
          have hsl := HI.out.1.st.ok.hs_len (1 : Int)
          have HL := Lib.hid (show (S.s.length : Int) - (S.f.length : Int) = (m : Int) ∧ (S.hs 1).length = m ∧ U.hs 1 = S.hs 1 by
            have := HPL.out.1
            rw [hf, hlen] at hcnt
            exact ⟨by omega, by omega, HI.out.2.mir.hs 1⟩)
          have hm80 : m ≤ 80 := by omega
          clear hcnt hf hlen hsl
          go_wp2_with fail
          refine (TI.s_len HI.out.1.st (by omega) (m : Int) HL.out.1).mono ?_
          rintro e w4 ⟨rfl, b4⟩
          have H4 := Lib.hid (HI.out.1.below b4)
          clear b4
          go_wp2_with fail
          refine (TI.s_hnd H4.out.st (by omega)).mono ?_
          rintro e w5 ⟨A5, n5, c5, rfl, hrow5, b5⟩
          have hn5 : n5 = m := by have := hds_len hrow5; rw [HL.out.2.1] at this; exact this
          subst hn5
          have H5 := Lib.hid (H4.out.below b5)
          clear b5 hrow5
          go_wp2_with fail
          refine (TI.s_hnd H5.out.st (by omega)).mono ?_
          rintro e w6 ⟨A6, n6, c6, rfl, hrow6, b6⟩
          have H6 := Lib.hid (H5.out.below b6)
          have R6 := Lib.hid hrow6
          clear b6 hrow6
          go_wp2_with fail
          refine (TA.s_hnd H6.out.su (by omega)).mono ?_
          rintro e w7 ⟨A7, n7, c7, rfl, hrow7, b7⟩
          rw [HL.out.2.2] at hrow7
          have H7 := Lib.hid (H6.out.below b7)
          have L6 := Lib.hid (lies_row (row_below R6.out b7))
          have L7 := Lib.hid (lies_row hrow7)
          have HN := Lib.hid (And.intro (hds_len R6.out) (hds_len hrow7))
          clear b7 hrow7
          go_wp2_with fail
          refine (rsame_eq w7 A6 A7 n6 c6 n7 c7 (S.hs 1) HN.out.1 HN.out.2 L6.out L7.out (by have := HN.out.1; have := HL.out.2.1; omega)).mono ?_
          rintro e w8 ⟨rfl, b8⟩
          have BB := Lib.hid (below_call H7.out.st.bel b8)
          clear b8
          go_wp2_with fail
          go_ret
          exact ⟨retB (by simp), BB.out⟩

/-! The row's step. -/
set_option maxRecDepth 100000 in
theorem lifted (os : Os) (started : os.Started) (H : Type) (enc : TypeId × Value → H) :
    ReturnsInHanded {} Try.checked os 7 .any (Rows.tableHoldsSpec.pre6 enc Try.prog Try.f7 Rows.tableHoldsRow.domain false) (Rows.tableHoldsSpec.post enc Try.prog Try.f7 false true false false) := by
  refine returnsInHanded_of_change (C := Try.checked) own started (by kernel_rfl) Try.func7
    (ChangeSpec.witness6 (enc := enc) (C := Try.checked) false ⟨#[], #[.slice none 0 0], []⟩ 8 (by kernel_rfl) (by kernel_rfl) (by kernel_rfl) (by kernel_rfl)) ?_
  intro W base args ds gs before hval0 hW hcnd _
  have hval : ∀ (j : Nat) t v, Try.f7.params[j]? = some t → args[j]? = some v → Value.okWide Try.prog W .any base t v := hval0
  have hW' := hW
  obtain ⟨p, q, hA0, hV, rfl, hfz, hnd⟩ := hW
  have hA : DataW.TrodAll enc Try.prog W 0 (fun _ => true) true Try.f7.params.toList args.toList ds p := hA0
  rw [Try.params7] at hA hval
  obtain ⟨v0, vs0, d0, ds0, p0, q0, hargs, rfl, rfl, h0, r0⟩ := trodAll_cons hA
  obtain ⟨rfl, rfl, rfl⟩ := trodAll_nil r0
  obtain rfl : args = #[v0] := by cases args; simp_all
  obtain ⟨rfl, rfl⟩ := trodVars_none hV
  obtain ⟨a0, len0, cap0, rfl⟩ := okWide_slice Try.underlying22 (hval 0 22 v0 rfl rfl)
  have k0 := h0
  have lt0 : ∀ x ∈ p0, x.block < W.heap.size := by obtain ⟨m, hm⟩ := k0; exact DataW.trod_lt m _ _ _ hm
  have w0 : IsActs W a0 len0 := by
    obtain ⟨fuel, hf⟩ := h0
    obtain ⟨A, l, c, hcs, hw⟩ := acts_open hf
    simp [Value.cells] at hcs
    obtain ⟨rfl, rfl, rfl⟩ := hcs
    exact hw
  clear hA0 hval0
  refine (walk a0 len0 cap0 W w0).mono fun e W' ⟨he, bel⟩ => ?_
  subst he
  exact ⟨_, rfl, _, _, _, [], _, [], hW', trodAll_mk1 (shut_bool Try.underlying4 _), (trodAll_cons_mk (Below.trod laidOut (by kernel_rfl) (of_decide_eq_true (by kernel_rfl)) k0 bel lt0) trodAll_mk0), rfl, bel.frame _, fun h => by cases h⟩

theorem over : Rows.tableHoldsRow.holds Try.pinned (OpenSpec.ofChange Rows.tableHoldsSpec) :=
  OpenClaim.holds_of_wide 7 Try.f7 rfl rfl rfl rfl rfl rfl rfl ⟨rfl, rfl, rfl, rfl, rfl⟩ rfl rfl rfl rfl rfl (by kernel_rfl) Try.func7 (by kernel_rfl)
    (of_decide_eq_true (by kernel_rfl)) (by unfold Func.isWrapper; first | (rw [if_pos (by decide +kernel)]; kernel_rfl) | (rw [if_neg (by decide +kernel)]; exact ⟨rfl, rfl⟩))
    (fun os started H enc _ => lifted os started H enc)

/-- The statement. -/
theorem proved : Rows.TableHoldsSaid := over
#print axioms proved
end Go.Proofs.Ytbkdlblpoohliaa.tableHolds
