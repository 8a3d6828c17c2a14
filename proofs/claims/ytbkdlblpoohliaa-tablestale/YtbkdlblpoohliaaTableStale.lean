/-
  TableStale: a handle that was dropped is never live again, however its slot is used, and no two live handles are the same; for every input the law returns true, and the arguments read behind the call as they read before. No condition.
-/
import Derived.Test.YtbkdlblpoohliaaRows
import Derived.WalkKit
import Derived.ProofKit
import Derived.OpenShut
import Derived.ShutString
import Derived.ChangeOld
import Derived.Below
import Derived.Test.YtbkdlblpoohliaaL13
namespace Go.Proofs.Ytbkdlblpoohliaa.tableStale
open Go.ChangeShapes Go.WideShapes Go.ChangeAt Go.RowKit
set_option linter.unusedVariables false

theorem own : ownKnob Try.prog.godebug = none := by kernel_rfl

open T13 Go.Deep

/-! The walk. -/
set_option maxRecDepth 20000 in
set_option maxHeartbeats 16000000 in
theorem walk (a0 : Option Addr) (len0 cap0 : Nat) (w : World) (w0 : IsActs w a0 len0) :
    Calls Try.prog 4 #[.slice a0 len0 cap0] w fun e w' => e = .returned (.bool true) ∧ Below w.heap.size w w' := by
  obtain ⟨hl63, L, hL, hActs⟩ := w0
  have HA := Lib.hid (And.intro hL hActs)
  have k3 := Lib.hid (show M.kOk 3 by decide)
  clear hActs hL
  go_enter Try.func4, Try.ntmps4
  go_wp2_with fail
  refine (awake_any _).mono ?_
  rintro e w1 ⟨rfl, b1⟩
  have B1 := Lib.hid b1
  clear b1
  by_cases h80 : 80 < len0
  · go_wp2_with fail
    go_ret
    exact ⟨rfl, B1.out⟩
  have d80 : decide (80 < (len0 : Int)) = false := by simp; omega
  go_wp2_with fail
  clear d80 hl63
  refine (TS.s_new B1.out 3).mono ?_
  rintro e w2 ⟨t, rfl, h2, _, _⟩
  have H2 := Lib.hid (show St13 w w2 t M.Tt.new (fun x => x = t) 0 [] [] none 0 0 none 0 0 from ⟨h2, Lst.none' _ _ _ _, Lst.none' _ _ _ _, fun x hx => absurd hx rowD_none, M.inv_new _⟩)
  clear h2
  go_wp2_with fail
  go_loopw [5, 6, 7] (fun lvv stv i wr => ∃ (j n c n2 c2 : Nat) (A A2 : Option Addr) (S : M.Tt TS.Th) (Q : Nat → Prop) (lp sp : List (Nat × Nat)), j ≤ len0 ∧ i = .int .i64 (j : Int) ∧ lvv = .slice A n c ∧ stv = .slice A2 n2 c2 ∧ n ≤ j ∧ n2 ≤ j ∧ Hid (St13 w wr t S Q j lp sp A n c A2 n2 c2)) (fun _ _ i _ => len0 - (intOf i).toNat)
  case atStart => exact ⟨0, 0, 0, 0, 0, none, none, _, _, [], [], by omega, rfl, rfl, rfl, by omega, by omega, H2⟩
  case round =>
    clear H2
    obtain ⟨j, n, c, n2, c2, A, A2, S, Q, lp, sp, hj, rfl, rfl, rfl, hnj, hn2j, HS⟩ := hrel
    by_cases hlt : j < len0
    · have hjl : j < L.length := by have := HA.out.1; omega
      obtain ⟨bl, o, rfl, hc⟩ := HA.out.2 (by omega)
      have ha := hc j hjl
      obtain ⟨x, hx⟩ : ∃ x, x = L[j] := ⟨_, rfl⟩
      rw [← hx] at ha
      obtain ⟨d, ix, hh, vv⟩ := x
      have HACT := Lib.hid ha
      have e0 := (ha.keep HS.out.std.bel).c0
      simp only at e0
      have hj80 : j < 80 := by omega
      clear hc hx ha
      go_upto_if 36 with fail
      generalize wr = wa at *
      go_cut [5, 8, 9] (fun v5 _ _ wx => ∃ (n' c' : Nat) (A' : Option Addr) (S' : M.Tt TS.Th) (Q' : Nat → Prop) (lp' : List (Nat × Nat)), n' ≤ j + 1 ∧ v5 = .slice A' n' c' ∧ (d ≠ 0 → S' = S) ∧ Hid (St13 w wx t S' Q' (j + (if d = 0 then 1 else 0)) lp' sp A' n' c' A2 n2 c2))
      case first =>
        rcases Nat.eq_zero_or_pos d with hd | hd
        · have t0 : ((d : Int) == 0) = true := by simp [hd]
          have HD := Lib.hid hd
          clear hd
          obtain ⟨p, hp⟩ : ∃ p, M.hpV 3 (S.at' : Int) (S.gn : Int) = p := ⟨_, rfl⟩
          have HP := M.Shut13.mk hp
          clear hp
          go_wp2_with fail
          refine (TS.s_add HS.out.std (by omega) xs13 k3.out).mono ?_
          rintro e w3 ⟨rfl, h3, kk3⟩
          rw [HP.out]
          have H3 := Lib.hid (show TS.Std w w3 t 3 (S.put xs13) (Wid Q wa w3) (j + 1) ∧ Lst w3 31 w.heap.size A n c (hds (M.hnds 3 lp)) (Wid Q wa w3) ∧ Lst w3 31 w.heap.size A2 n2 c2 (hds (M.hnds 3 sp)) (Wid Q wa w3) from ⟨h3, HS.out.lv.call kk3, HS.out.sl.call kk3⟩)
          clear h3 kk3 e0 t0
          go_wp2_with fail
          rename_i wo
          go_loopw [9] (fun i wx => ∃ m : Nat, m ≤ n ∧ i = .int .i64 (m : Int) ∧ wx = w3) (fun i _ => n - (intOf i).toNat)
          case atStart => exact ⟨0, by omega, rfl, rfl⟩
          case round =>
            obtain ⟨m, hm, rfl, hw⟩ := hrel
            have hw := hw.symm
            subst hw
            by_cases hlm : m < n
            · obtain ⟨pr, hpr⟩ : ∃ pr, lp[m]? = some pr := ⟨_, List.getElem?_eq_getElem (by have := HS.out.n_eq; omega)⟩
              have hne := HS.out.inv.fresh HS.out.std.ok k3.out (Nat.le_trans HS.out.std.len (by omega)) (by omega) (List.mem_of_getElem? hpr)
              obtain ⟨g, rfl, hcell⟩ := hd_cell H3.out.2.1.row (M.hnds_at hpr)
              rw [HP.out] at hne
              obtain ⟨q, hq⟩ : ∃ q, M.hpV 3 (pr.1 : Int) (pr.2 : Int) = q := ⟨_, rfl⟩
              rw [hq] at hne hcell
              have z1 : (q == p) = false := by simpa using hne
              clear hpr hq hne
              go_wp2_with fail
              go_roundw
              case rel => exact ⟨m + 1, by omega, by go_num, by trivial⟩
              case measure => simp [intOf]; omega
            · have B3 := (Below.refl w3.heap.size w3).alloc (Nat.le_refl _) (.cells #[.int .u64 p] 31)
              have H4 := Lib.hid (show _ ∧ _ ∧ _ from ⟨H3.out.1.below B3, H3.out.2.1.below B3, H3.out.2.2.below B3⟩)
              have LN := Lib.hid (lies_new w3 (.int .u64 p) 31)
              have hn6 : n ≤ 80 := by omega
              clear B3
              go_wp2_with (at_builtin; refine app_u rfl _ _ rfl _ w.heap.size A n c (hds (M.hnds 3 lp)) rfl H4.out.2.1.row (some ⟨w3.heap.size, 0, none⟩) 1 1 [.int .u64 p] rfl rfl LN.out (hds_one [p]) (by omega) H4.out.1.bel.size ?_; intro A' c' w4 hrow hk4 hat; (have R4 := Lib.hid (H4.out.1.app H4.out.2.1 hk4 hrow hat)); (have O4 := Lib.hid (app_other H4.out.2.2 HS.out.ap hk4 hat)); clear hrow hk4 hat)
              go_meet
              exact ⟨n + 1, c', A', _, _, lp ++ [(S.at', S.gn)], by omega, rfl, fun e => absurd HD.out e, by rw [if_pos HD.out]; exact Lib.hid ⟨R4.out.1, by rw [M.hnds_append, show M.hnds 3 [(S.at', S.gn)] = [p] by show [M.hpV 3 _ _] = _; rw [HP.out], hds_append]; exact R4.out.2, O4.out.1, O4.out.2, (HS.out.inv.put HS.out.std.ok).more (by simp)⟩⟩
        · have t0 : ((d : Int) == 0) = false := by simp; omega
          go_wp2_with fail
          go_meet
          exact ⟨n, c, A, S, Q, lp, by omega, rfl, fun _ => rfl, Lib.hid (HS.out.more (by omega))⟩
      case rest =>
        obtain ⟨n1, c1, A1, S1, Q1, lp1, hn1, rfl, _, HW⟩ := hcut
        clear HS e0
        generalize wc = wb at *
        have e0 := (HACT.out.keep HW.out.std.bel).c0
        simp only at e0
        obtain ⟨k, hk⟩ : ∃ k, k = j + (if d = 0 then 1 else 0) := ⟨_, rfl⟩
        rw [← hk] at HW
        have hkj : k ≤ j + 1 := by rw [hk]; split <;> omega
        have hk3 : d = 3 → k = j := fun e => by rw [hk, e]; rfl
        have HK3 := Lib.hid hk3
        clear hk hk3
        obtain ⟨bb, hbb⟩ : ∃ bb, bb = decide (d = 3 ∧ 0 < n1) := ⟨_, rfl⟩
        have HBB := Lib.hid hbb
        clear hbb
        go_upto_region 20 with fail
        go_cut [65] (fun v wx => v = .bool bb ∧ wx = wb)
        case first =>
          by_cases h1 : d = 3
          · subst h1
            rcases Nat.eq_zero_or_pos n1 with h2 | h2
            · subst h2
              go_wp2_with fail
              go_meet
              exact ⟨by rw [HBB.out]; rfl, rfl⟩
            · go_wp2_with fail
              go_meet
              exact ⟨by rw [HBB.out]; simp [h2], rfl⟩
          · have t0 : ((d : Int) == 3) = false := by simp; omega
            go_wp2_with fail
            go_meet
            exact ⟨by rw [HBB.out]; simp [h1], rfl⟩
        case rest =>
          obtain ⟨rfl, hw⟩ := hcut
          have hw := hw.symm
          subst hw
          go_upto_if 65 with fail
          go_cut [5, 6, 10, 11] (fun v5 v6 _ _ wx => ∃ (n' c' n2' c2' : Nat) (A' A2' : Option Addr) (S' : M.Tt TS.Th) (Q' : Nat → Prop) (lp' sp' : List (Nat × Nat)), n' ≤ j + 1 ∧ n2' ≤ j + 1 ∧ v5 = .slice A' n' c' ∧ v6 = .slice A2' n2' c2' ∧ Hid (St13 w wx t S' Q' (j + 1) lp' sp' A' n' c' A2' n2' c2'))
          case first =>
            cases bb with
            | false =>
              go_wp2_with fail
              go_meet
              exact ⟨n1, c1, n2, c2, A1, A2, S1, Q1, lp1, sp, hn1, by omega, rfl, rfl, Lib.hid (HW.out.more hkj)⟩
            | true =>
              have hd1 : d = 3 ∧ 0 < n1 := by have := HBB.out; simpa using this.symm
              have hkk := HK3.out hd1.1
              have e1 := (HACT.out.keep HW.out.std.bel).c1
              have hix := HACT.out.i8
              simp only at e1 hix
              obtain ⟨q, hq⟩ : ∃ q, ix % n1 = q := ⟨_, rfl⟩
              have hqn : q < n1 := by rw [← hq]; exact Nat.mod_lt _ hd1.2
              have hrem : (ix : Int).tmod (n1 : Int) = (q : Int) := by rw [← hq]; rfl
              obtain ⟨g, i1, y1, P, hpr, rfl, hcell, hP, h64, hlv, hsi⟩ := HW.out.live (by omega) hqn
              have B5 := (Below.refl wb.heap.size wb).alloc (Nat.le_refl _) (.cells #[.int .u64 (P : Int)] 31)
              have H5 := Lib.hid (HW.out.below B5)
              have LN := Lib.hid (lies_new wb (.int .u64 (P : Int)) 31)
              have HPR := Lib.hid (show lp1[q]? = some (i1, y1) ∧ M.hpV 3 (i1 : Int) (y1 : Int) = (P : Int) ∧ S1.liv 3 P = some i1 from ⟨hpr, hP, hlv⟩)
              have hn80 : n1 ≤ 80 := by omega
              have hn280 : n2 ≤ 80 := by omega
              clear hq hpr hP hlv hsi B5 e0
              go_upto_region 22 with fail
              clear hrem e1 hix
              go_upto_region 23 with (at_builtin; refine app_u rfl _ _ rfl _ w.heap.size A2 n2 c2 (hds (M.hnds 3 sp)) rfl H5.out.sl.row (some ⟨wb.heap.size, 0, none⟩) 1 1 [.int .u64 (P : Int)] rfl rfl LN.out (hds_one [(P : Int)]) (by omega) H5.out.std.bel.size ?_; intro A3 c3 w4 hrow hk4 hat; (have R4 := Lib.hid (H5.out.std.app H5.out.sl hk4 hrow hat)); (have O4 := Lib.hid (app_other H5.out.lv (fun x hx hy => H5.out.ap x hy hx) hk4 hat)); clear hrow hk4 hat)
              have hcell4 : w4.cell? ⟨g, q, none⟩ = some (.int .u64 (P : Int)) := by
                obtain ⟨g', e, hc⟩ := hd_cell O4.out.1.row (M.hnds_at HPR.out.1)
                cases e
                rw [HPR.out.2.1] at hc
                exact hc
              clear hcell
              go_wp2_with fail
              refine (TS.s_drop_some R4.out.1 (by omega) P i1 h64 HPR.out.2.2).mono ?_
              rintro e w5 ⟨rfl, h5, kk5⟩
              have H6 := Lib.hid (show TS.Std w w5 t 3 (S1.drop TS.z0 i1) (Wid Q1 w4 w5) k ∧ Lst w5 31 w.heap.size (some ⟨g, 0, none⟩) n1 c1 (hds (M.hnds 3 lp1)) (Wid Q1 w4 w5) ∧ Lst w5 31 w.heap.size A3 (n2 + 1) c3 (hds (M.hnds 3 sp) ++ [.int .u64 (P : Int)]) (Wid Q1 w4 w5) from ⟨h5, O4.out.1.call kk5, R4.out.2.call kk5⟩)
              have N6 := Lib.hid (Lst.none' w5 31 w.heap.size (Wid Q1 w4 w5))
              have L6 := Lib.hid (lies_take (lies_row H6.out.2.1.row) q)
              have hlen1 := H6.out.2.1.len
              have LT := Lib.hid (show q = ((hds (M.hnds 3 lp1)).take q).length by rw [List.length_take]; omega)
              have O1 := Lib.hid (show ∀ u ∈ (hds (M.hnds 3 lp1)).take q, u.oneCell' = true from fun u hu => hds_one _ u (List.mem_of_mem_take hu))
              have cutT := ucut13_to g 0 n1 c1 q (by have := row_cap H6.out.2.1.row; omega)
              clear h5 kk5 hcell4 hlen1
              go_upto_region 27 with (at_builtin; refine app_u rfl _ _ rfl _ w.heap.size none 0 0 [] rfl N6.out.row (some ⟨g, 0, none⟩) q c1 ((hds (M.hnds 3 lp1)).take q) rfl LT.out L6.out O1.out (by omega) H6.out.1.bel.size ?_; intro A7 c7 w7 hrow hk7 hat; rw [Nat.zero_add] at hrow; (have R7 := Lib.hid (H6.out.1.app N6.out hk7 hrow hat)); (have O7 := Lib.hid (app_other H6.out.2.1 (fun x hx => absurd hx rowD_none) hk7 hat)); (have O8 := Lib.hid (app_other H6.out.2.2 (fun x hx => absurd hx rowD_none) hk7 hat)); clear hrow hk7 hat)
              have L7 := Lib.hid (lies_drop (o := 0) (lies_row O7.out.1.row) (q + 1))
              obtain ⟨A9, cutF, hA9⟩ := ucut13_from g 0 n1 c1 (q + 1) (by omega) (row_cap O7.out.1.row)
              rw [show ((q + 1 : Nat) : Int) = (q : Int) + 1 by omega] at cutF
              have hlen7 := O7.out.1.len
              have LD := Lib.hid (show n1 - (q + 1) = ((hds (M.hnds 3 lp1)).drop (q + 1)).length by rw [List.length_drop, ← hlen7])
              have L9 := Lib.hid (show Lies w7 A9 ((hds (M.hnds 3 lp1)).drop (q + 1)) from fun hh => by
                rw [hA9 (by rw [List.length_drop] at hh; omega)]
                exact L7.out hh)
              have O2 := Lib.hid (show ∀ u ∈ (hds (M.hnds 3 lp1)).drop (q + 1), u.oneCell' = true from fun u hu => hds_one _ u (List.mem_of_mem_drop hu))
              clear cutT hA9 hlen7 L7
              go_wp2_with (at_builtin; refine app_u rfl _ _ rfl _ w.heap.size A7 q c7 ([] ++ (hds (M.hnds 3 lp1)).take q) rfl R7.out.2.row A9 (n1 - (q + 1)) (c1 - (q + 1)) ((hds (M.hnds 3 lp1)).drop (q + 1)) rfl LD.out L9.out O2.out (by omega) R7.out.1.bel.size ?_; intro A10 c10 w10 hrow hk10 hat; (have R10 := Lib.hid (R7.out.1.app R7.out.2 hk10 hrow hat)); (have O10 := Lib.hid (app_other O8.out.1 O8.out.2 hk10 hat)); clear hrow hk10 hat)
              go_meet
              refine ⟨q + (n1 - (q + 1)), c10, n2 + 1, c3, A10, A3, _, _, lp1.take q ++ lp1.drop (q + 1), sp ++ [(i1, y1)], by omega, by omega, rfl, rfl, Lib.hid ⟨R10.out.1.more hkj, ?_, ?_, O10.out.2, ?_⟩⟩
              · have := R10.out.2
                rw [List.nil_append] at this
                rw [M.hnds_append, hds_append, M.hnds_take, M.hnds_drop, hds_take, show hds ((M.hnds 3 lp1).drop (q + 1)) = (hds (M.hnds 3 lp1)).drop (q + 1) by simp [hds, List.map_drop]]
                exact this
              · rw [M.hnds_append, hds_append, show hds (M.hnds 3 [(i1, y1)]) = [.int .u64 (P : Int)] by rw [← HPR.out.2.1]; rfl]
                exact O10.out.1
              · exact (HW.out.inv.drop HPR.out.1 (by omega) TS.z0).more (by omega)
          case rest =>
            obtain ⟨n3, c3, n4, c4, A3, A4, S3, Q3, lp3, sp3, hn3, hn4, rfl, rfl, H7⟩ := hcut
            clear HW e0
            generalize wc = wd at *
            go_wp2_with fail
            rename_i wo
            go_loopw [12] (fun i wx => ∃ (m : Nat) (Q' : Nat → Prop), m ≤ n4 ∧ i = .int .i64 (m : Int) ∧ Hid (St13 w wx t S3 Q' (j + 1) lp3 sp3 A3 n3 c3 A4 n4 c4)) (fun i _ => n4 - (intOf i).toNat)
            case atStart => exact ⟨0, _, by omega, rfl, H7⟩
            case round =>
              clear H7
              obtain ⟨m, Q5, hm, rfl, H7⟩ := hrel
              by_cases hlm : m < n4
              · obtain ⟨g, P, rfl, hcell, h64, hno⟩ := H7.out.dead (by omega) hlm
                have HNO := Lib.hid hno
                have hgn : S3.get 3 P = none := by unfold M.Tt.get; rw [hno]
                have hsn : ∀ v, S3.setH 3 P v = S3 := fun v => by unfold M.Tt.setH; rw [hno]
                have hdn : S3.dropH 3 TS.z0 P = S3 := by unfold M.Tt.dropH; rw [hno]
                have HN := Lib.hid (And.intro hgn (And.intro hsn hdn))
                clear hno hgn hsn hdn
                go_wp2_with fail
                refine (TS.s_get H7.out.std P h64).mono ?_
                rintro e w8 ⟨rfl, b8⟩
                rw [HNO.out, HN.out.1]
                have H8 := Lib.hid (H7.out.below b8)
                have hcell8 := (b8.cell (lt_of_cell hcell)).trans hcell
                clear b8 hcell
                go_wp2_with fail
                refine (TS.s_set H8.out.std P h64 ⟨#[121]⟩).mono ?_
                rintro e w9 ⟨rfl, h9, kk9⟩
                rw [HNO.out]
                rw [HN.out.2.1] at h9
                have H9 := Lib.hid (H8.out.call h9 kk9)
                have hcell9 : w9.cell? ⟨g, m, none⟩ = some (.int .u64 (P : Int)) := kk9.cell_some hcell8 (fun hq => H8.out.sl.off g ⟨_, rfl, rfl⟩ hq)
                clear h9 kk9 hcell8
                go_wp2_with fail
                refine (TS.s_drop H9.out.std (by omega) P h64).mono ?_
                rintro e w10 ⟨rfl, h10, kk10⟩
                rw [HNO.out]
                rw [HN.out.2.2] at h10
                have H10 := Lib.hid (H9.out.call h10 kk10)
                clear h10 kk10 hcell9
                go_wp2_with fail
                go_roundw
                case rel => exact ⟨m + 1, _, by omega, by go_num, H10⟩
                case measure => simp [intOf]; omega
              · go_wp2_with fail
                rename_i wo2
                go_loopw [15] (fun i wx => ∃ (m : Nat), m ≤ n3 ∧ i = .int .i64 (m : Int) ∧ Hid (St13 w wx t S3 Q5 (j + 1) lp3 sp3 A3 n3 c3 A4 n4 c4)) (fun i _ => n3 - (intOf i).toNat)
                case atStart => exact ⟨0, by omega, rfl, H7⟩
                case round =>
                  clear H7
                  obtain ⟨m', hm', rfl, H7⟩ := hrel
                  by_cases hlm' : m' < n3
                  · obtain ⟨g, i1, y1, P, hpr, rfl, hcell, hP, h64, hlv, hsi⟩ := H7.out.live (by omega) hlm'
                    have hgn : S3.get 3 P = some xs13 := by unfold M.Tt.get; rw [hlv]; simp only [hsi]; rfl
                    have HN := Lib.hid (And.intro hlv hgn)
                    clear hpr hP hlv hsi hgn
                    go_wp2_with fail
                    refine (TS.s_get H7.out.std P h64).mono ?_
                    rintro e w8 ⟨rfl, b8⟩
                    rw [HN.out.1, HN.out.2]
                    have H8 := Lib.hid (H7.out.below b8)
                    clear b8 hcell
                    go_wp2_with fail
                    go_roundw
                    case rel => exact ⟨m' + 1, by omega, by go_num, H8⟩
                    case measure => simp [intOf]; omega
                  · go_wp2_with fail
                    go_roundw
                    case rel => exact ⟨j + 1, n3, c3, n4, c4, A3, A4, S3, _, lp3, sp3, by omega, by go_num, rfl, rfl, hn3, hn4, H7⟩
                    case measure => simp [intOf]; omega
    · have hcnt := HS.out.inv.cnt
      have hn := HS.out.n_eq
      have hj80 : j ≤ 80 := by omega
      have HL := Lib.hid (show (S.s.length : Int) - (S.f.length : Int) = (n : Int) by omega)
      clear hcnt hn
      go_wp2_with fail
      refine (TS.s_len HS.out.std (by omega) (n : Int) HL.out).mono ?_
      rintro e w3 ⟨rfl, b3⟩
      have BB := Lib.hid (below_call HS.out.std.bel b3)
      clear b3
      go_wp2_with fail
      go_ret
      exact ⟨retB (by simp), BB.out⟩

/-! The row's step. -/
set_option maxRecDepth 100000 in
theorem lifted (os : Os) (started : os.Started) (H : Type) (enc : TypeId × Value → H) :
    ReturnsInHanded {} Try.checked os 4 .any (Rows.tableStaleSpec.pre6 enc Try.prog Try.f4 Rows.tableStaleRow.domain false) (Rows.tableStaleSpec.post enc Try.prog Try.f4 false true false false) := by
  refine returnsInHanded_of_change (C := Try.checked) own started (by kernel_rfl) Try.func4
    (ChangeSpec.witness6 (enc := enc) (C := Try.checked) false ⟨#[], #[.slice none 0 0], []⟩ 8 (by kernel_rfl) (by kernel_rfl) (by kernel_rfl) (by kernel_rfl)) ?_
  intro W base args ds gs before hval0 hW hcnd _
  have hval : ∀ (j : Nat) t v, Try.f4.params[j]? = some t → args[j]? = some v → Value.okWide Try.prog W .any base t v := hval0
  have hW' := hW
  obtain ⟨p, q, hA0, hV, rfl, hfz, hnd⟩ := hW
  have hA : DataW.TrodAll enc Try.prog W 0 (fun _ => true) true Try.f4.params.toList args.toList ds p := hA0
  rw [Try.params4] at hA hval
  obtain ⟨v0, vs0, d0, ds0, p0, q0, hargs, rfl, rfl, h0, r0⟩ := trodAll_cons hA
  obtain ⟨rfl, rfl, rfl⟩ := trodAll_nil r0
  obtain rfl : args = #[v0] := by cases args; simp_all
  obtain ⟨rfl, rfl⟩ := trodVars_none hV
  obtain ⟨a0, len0, cap0, rfl⟩ := okWide_slice Try.underlying22 (hval 0 22 v0 rfl rfl)
  have k0 := h0
  have lt0 : ∀ x ∈ p0, x.block < W.heap.size := by obtain ⟨m, hm⟩ := k0; exact DataW.trod_lt m _ _ _ hm
  have w0 : IsActs W a0 len0 := by
    obtain ⟨fuel, hf⟩ := h0
    obtain ⟨A, l, c, hcs, hw⟩ := acts_open hf
    simp [Value.cells] at hcs
    obtain ⟨rfl, rfl, rfl⟩ := hcs
    exact hw
  clear hA0 hval0
  refine (walk a0 len0 cap0 W w0).mono fun e W' ⟨he, bel⟩ => ?_
  subst he
  exact ⟨_, rfl, _, _, _, [], _, [], hW', trodAll_mk1 (shut_bool Try.underlying4 _), (trodAll_cons_mk (Below.trod laidOut (by kernel_rfl) (of_decide_eq_true (by kernel_rfl)) k0 bel lt0) trodAll_mk0), rfl, bel.frame _, fun h => by cases h⟩

theorem over : Rows.tableStaleRow.holds Try.pinned (OpenSpec.ofChange Rows.tableStaleSpec) :=
  OpenClaim.holds_of_wide 4 Try.f4 rfl rfl rfl rfl rfl rfl rfl ⟨rfl, rfl, rfl, rfl, rfl⟩ rfl rfl rfl rfl rfl (by kernel_rfl) Try.func4 (by kernel_rfl)
    (of_decide_eq_true (by kernel_rfl)) (by unfold Func.isWrapper; first | (rw [if_pos (by decide +kernel)]; kernel_rfl) | (rw [if_neg (by decide +kernel)]; exact ⟨rfl, rfl⟩))
    (fun os started H enc _ => lifted os started H enc)

/-- The statement. -/
theorem proved : Rows.TableStaleSaid := over
#print axioms proved
end Go.Proofs.Ytbkdlblpoohliaa.tableStale
