/-
  TablePlays: whatever is added, got, set and dropped, by live handles, stale ones, and other numbers, each answer, and all handles, are the document's, step by step; for every input the law returns true, and the arguments read behind the call as they read before. No condition.
-/
import Derived.Test.YtbkdlblpoohliaaRows
import Derived.WalkKit
import Derived.ProofKit
import Derived.OpenShut
import Derived.ShutString
import Derived.ChangeOld
import Derived.Below
import Derived.Test.YtbkdlblpoohliaaQ13
import Derived.Deep.CutBlock
import Derived.Deep.DeepCutAuto
namespace Go.Proofs.Ytbkdlblpoohliaa.tablePlays
open Go.ChangeShapes Go.WideShapes Go.ChangeAt Go.RowKit
set_option linter.unusedVariables false

theorem own : ownKnob Try.prog.godebug = none := by kernel_rfl

open T13 Go.Deep

/-! The walk. -/
set_option maxRecDepth 20000 in
set_option maxHeartbeats 16000000 in
theorem walk (a0 : Int) (a1 : Option Addr) (len1 cap1 : Nat) (w : World) (w0 : (Lit.int .i64 a0).wf = true) (w1 : IsActs w a1 len1) :
    Calls Try.prog 3 #[.int .i64 a0, .slice a1 len1 cap1] w fun e w' => e = .returned (.bool true) ∧ Below w.heap.size w w' := by
  obtain ⟨hl63, L, hL, hActs⟩ := w1
  obtain ⟨hK0, hK1⟩ := i64_range w0
  have HA := Lib.hid (And.intro hL hActs)
  have HKR := Lib.hid (And.intro hK0 hK1)
  clear hActs hL hK0 hK1

  obtain ⟨K, hKK⟩ : ∃ z, z = a0 := ⟨_, rfl⟩
  subst hKK
  go_enter Try.func3, Try.ntmps3
  go_wp2_with fail
  refine (awake_any _).mono ?_
  rintro e w1 ⟨rfl, b1⟩
  have B1 := Lib.hid b1
  clear b1
  by_cases h80 : 80 < len1
  · go_wp2_with fail
    go_ret
    exact ⟨rfl, B1.out⟩
  have d80 : decide (80 < (len1 : Int)) = false := by simp; omega
  go_wp2_with fail
  clear d80 hl63
  refine (TI.s_new B1.out K).mono ?_
  rintro e w2 ⟨t, rfl, h2, _, _⟩
  have b3 := (Below.refl w2.heap.size w2).alloc (Nat.le_refl _) (.cells #[.int .i64 K, .slice none 0 0, .slice none 0 0] 29)
  obtain ⟨w3, hw3⟩ : ∃ z, z = w2.alloc (.cells #[.int .i64 K, .slice none 0 0, .slice none 0 0] 29) := ⟨_, rfl⟩
  obtain ⟨g, hg⟩ : ∃ z, z = w2.heap.size := ⟨_, rfl⟩
  have H3 := Lib.hid (show Pl13 w w3 t g K M.Tt.new M.Tt.new (fun x => x = t) 0 none 0 0 none 0 0 none 0 0 [] from by
    rw [← hw3] at b3
    refine ⟨h2.below b3, by rw [hw3, hg]; exact Bt.new _ _ _ _ _ _ _ _, ⟨World.ownsRow_nil _ _ _ _, World.ownsRow_nil _ _ _ _⟩, Lst.none' _ _ _ _, fun e => by have := h2.has.lt g e; omega, by have := h2.bel.size; omega, fun x hx => absurd hx rowD_none, fun x hx => absurd hx rowD_none, fun h hh => by simp at hh⟩)
  clear h2 b3
  go_upto_region 8 with fail
  rw [← hw3, ← hg]
  clear hw3 hg
  go_wp2_with fail
  go_loopw [9, 10] (fun tv i wr => ∃ (j n c m d p q : Nat) (A F T : Option Addr) (S : M.Tt Int) (Q : Nat → Prop) (tl : List Int), j ≤ len1 ∧ i = .int .i64 (j : Int) ∧ tv = .slice T p q ∧ p ≤ j ∧ Hid (Pl13 w wr t g K S S Q j A n c F m d T p q tl)) (fun _ i _ => len1 - (intOf i).toNat)
  case atStart => exact ⟨0, 0, 0, 0, 0, 0, 0, none, none, none, _, _, [], by omega, rfl, rfl, by omega, H3⟩
  case round =>
    clear H3
    obtain ⟨j, n, c, m, d, p, q, A, F, T, S, Q, tl, hj, rfl, rfl, hpj, HI⟩ := hrel
    by_cases hlt : j < len1
    · have hjl : j < L.length := by have := HA.out.1; omega
      obtain ⟨bl, o, rfl, hc⟩ := HA.out.2 (by omega)
      have ha := (hc j hjl).keep HI.out.st.bel
      obtain ⟨x, hx⟩ : ∃ x, x = L[j] := ⟨_, rfl⟩
      rw [← hx] at ha
      have HX := Lib.hid (show x.d < 256 ∧ x.i < 256 ∧ x.h < 18446744073709551616 ∧ (-9223372036854775808 ≤ x.v ∧ x.v ≤ 9223372036854775807) from ⟨ha.d8, ha.i8, ha.h64, ha.vr⟩)
      have HV := Pa13.new HI.out HX.out
      have e0 := ha.c0
      have e1 := ha.c1
      have e2 := ha.c2
      have e3 := ha.c3
      obtain ⟨dd, ix, hh, v⟩ := x
      simp only at e0 e1 e2 e3 HX HV
      have hj80 : j < 80 := by omega
      obtain ⟨wa, hwa⟩ : ∃ wa, wa = wr.alloc (.cells #[.int .u8 (dd : Int), .int .u8 (ix : Int), .int .u64 (hh : Int), .int .i64 v] 33) := ⟨_, rfl⟩
      rw [← hwa] at HV
      have hpl := HI.out.ls.len
      rw [hds_length] at hpl
      have HPL := Lib.hid hpl
      clear hc hx ha HI hpl
      go_upto_region 14 with fail
      rw [← hwa]
      generalize wr.heap.size = y at *
      have HV := Lib.hid HV
      clear hwa e0 e1 e2 e3
      have a2 := HV.out.act.c2
      simp only [Nat.zero_add] at a2
      obtain ⟨bb, hbb⟩ : ∃ bb, bb = decide (hh = 0 ∧ 0 < p) := ⟨_, rfl⟩
      have HBB := Lib.hid hbb
      clear hbb
      go_upto_region 15 with fail
      clear a2
      go_cut [52] (fun v wx => v = .bool bb ∧ wx = wa)
      case first =>
        by_cases h1 : hh = 0
        · have t0 : ((hh : Int) == 0) = true := by simp [h1]
          rcases Nat.eq_zero_or_pos p with h2 | h2
          · subst h2
            go_wp2_with fail
            go_meet
            exact ⟨by rw [HBB.out]; simp, by trivial⟩
          · go_wp2_with fail
            go_meet
            exact ⟨by rw [HBB.out]; simp [h1, h2], by trivial⟩
        · have t0 : ((hh : Int) == 0) = false := by simp; omega
          go_wp2_with fail
          go_meet
          exact ⟨by rw [HBB.out]; simp [h1], by trivial⟩
      case rest =>
        obtain ⟨rfl, hw⟩ := hcut
        have hw := hw.symm
        subst hw
        go_upto_if 52 with fail
        go_cut [12] (fun v12 wx => ∃ P : Nat, v12 = .int .u64 (P : Int) ∧ P < 18446744073709551616 ∧ wx = wa)
        case first =>
          cases bb with
          | false =>
            go_wp2_with fail
            go_meet
            exact ⟨hh, rfl, HX.out.2.2.1, by trivial⟩
          | true =>
            have hd1 : hh = 0 ∧ 0 < p := by have := HBB.out; simpa using this.symm
            have a1 := HV.out.act.c1
            have hix := HX.out.2.1
            simp only [Nat.zero_add] at a1
            obtain ⟨r, hr⟩ : ∃ r, ix % p = r := ⟨_, rfl⟩
            have hrp : r < p := by rw [← hr]; exact Nat.mod_lt _ hd1.2
            have hrem : (ix : Int).tmod (p : Int) = (r : Int) := by rw [← hr]; rfl
            obtain ⟨z, hz⟩ : ∃ z, tl[r]? = some z := ⟨_, List.getElem?_eq_getElem (by have := HPL.out; omega)⟩
            obtain ⟨P, hP, hP64⟩ := HV.out.pl.hs z (List.mem_of_getElem? hz)
            obtain ⟨gt, rfl, hcell⟩ := hd_cell HV.out.pl.ls.row hz
            rw [hP] at hcell
            clear hr hz hP hd1
            go_wp2_with fail
            go_meet
            exact ⟨P, rfl, hP64, by trivial⟩
        case rest =>
          obtain ⟨P, rfl, h64, hw⟩ := hcut
          have hw := hw.symm
          subst hw
          clear HBB
          have hd3 : dd = 0 ∨ dd = 1 ∨ dd = 2 ∨ 3 ≤ dd := by omega
          have a0 := HV.out.act.c0
          simp only at a0
          go_upto_block 2 with fail
          clear a0
          go_cut [9, 13, 14, 15, 16, 17, 18, 19, 20, 21, 22, 23] (fun v9 _ _ _ _ _ _ _ _ _ _ _ wx => ∃ (n' c' m' d' p' q' : Nat) (A' F' T' : Option Addr) (S' : M.Tt Int) (Q' : Nat → Prop) (tl' : List Int), p' ≤ j + 1 ∧ v9 = .slice T' p' q' ∧ Hid (Pl13 w wx t g K S' S' Q' (j + 1) A' n' c' F' m' d' T' p' q' tl'))
          case first =>
            have hle : S.s.length ≤ 900000 := Nat.le_trans HV.out.pl.st.len (by omega)
            have HLE := Lib.hid hle
            clear hle
            have c0 := HV.out.pl.bt.c0
            have c1 := HV.out.pl.bt.c1
            have c2 := HV.out.pl.bt.c2
            have a3 := HV.out.act.c3
            simp only [Nat.zero_add] at a3
            rcases hd3 with hd | hd | hd | hd
            · have t0 : ((dd : Int) == 0) = true := by simp [hd]
              clear hd
              obtain ⟨z, hz⟩ : ∃ z, M.hpV K (S.at' : Int) (S.gn : Int) = z := ⟨_, rfl⟩
              have hzr := M.hpV_range K (S.at' : Int) (S.gn : Int)
              rw [hz] at hzr
              have HZ := M.Shut13.mk hz
              have HZR := Lib.hid hzr
              have RA := Lib.hid (radd_any wa w.heap.size K S A n c F m d HV.out.pl.dc HV.out.pl.st.bel.size HV.out.pl.st.ok (by have := HLE.out; omega) v z hz)
              clear hz hzr
              go_wp2_with fail
              refine RA.out.mono ?_
              rintro _ w4 ⟨A4, n4, c4, F4, m4, d4, rfl, d4', b4, mA, mF⟩
              have D4 := Lib.hid d4'
              clear d4'
              obtain ⟨w5, hw5⟩ : ∃ z, z = w4.alloc (.cells #[.int .i64 K, .slice A4 n4 c4, .slice F4 m4 d4] 29) := ⟨_, rfl⟩
              obtain ⟨g5, hg5⟩ : ∃ z, z = w4.heap.size := ⟨_, rfl⟩
              have x5 : Bt w5 g5 K A4 n4 c4 F4 m4 d4 := by rw [hw5, hg5]; exact Bt.new _ _ _ _ _ _ _ _
              have b5 : Below w4.heap.size w4 w5 := by rw [hw5]; exact (Below.refl _ _).alloc (Nat.le_refl _) _
              have HD := HV.out.docs D4.out b4 mA mF
              rw [← hw5] at HD
              have t5 := (HV.out.pl.bt.below b4).below b5
              have HD := Lib.hid HD
              go_upto_region 24 with fail
              rw [← hw5, ← hg5]
              clear hw5 hg5 c0 c1 c2 a3
              have r0 := x5.c0
              have r1 := x5.c1
              have r2 := x5.c2
              have s0 := t5.c0
              have s1 := t5.c1
              have s2 := t5.c2
              have f0 := t5.frz 0
              have f1 := t5.frz 1
              have f2 := t5.frz 2
              clear b4 b5 mA mF x5 t5
              go_upto_region 25 with fail
              obtain ⟨w6, hw6⟩ : ∃ z, z = (((w5.setCell ⟨g, 0, none⟩ (.int .i64 K)).setCell ⟨g, 1, none⟩ (.slice A4 n4 c4)).setCell ⟨g, 2, none⟩ (.slice F4 m4 d4)) := ⟨_, rfl⟩
              rw [← hw6] at HD
              rw [← hw6]
              clear hw6 r0 r1 r2 s0 s1 s2 f0 f1 f2
              have a3 := HD.out.act.c3
              simp only [Nat.zero_add] at a3
              clear t0
              go_wp2_with fail
              refine (TI.s_add_any HD.out.pl.st (by omega) HKR.out.1 HKR.out.2 v z HZ.out).mono ?_
              rintro _ w7 ⟨rfl, h7, kk7⟩
              have H7 := Lib.hid (HD.out.prog h7 kk7)
              clear h7 kk7 a3
              have a3 := H7.out.act.c3
              simp only [Nat.zero_add] at a3
              go_wp2_with fail
              refine (TI.nadd w7 v).mono ?_
              rintro _ _ ⟨rfl, rfl⟩
              have B8 := (Below.refl w7.heap.size w7).alloc (Nat.le_refl _) (.cells #[.int .u64 z] 31)
              have H8 := Lib.hid (H7.out.pl.below B8)
              have LN := Lib.hid (lies_new w7 (.int .u64 z) 31)
              have hp6 : p ≤ 80 := by omega
              clear B8
              go_wp2_with (at_builtin; refine app_u rfl _ _ rfl _ w.heap.size T p q (hds tl) rfl H8.out.ls.row (some ⟨w7.heap.size, 0, none⟩) 1 1 [.int .u64 z] rfl rfl LN.out (hds_one [z]) (by omega) H8.out.st.bel.size ?_; intro T9 q9 w9 hrow hk9 hat; (have H9 := Lib.hid (H8.out.app (tl' := tl ++ [z]) hk9 (by rw [hds_append]; exact hrow) hat (fun h hh => by
                rcases List.mem_append.1 hh with e | e
                · exact H8.out.hs h e
                · rw [List.mem_singleton.1 e]
                  exact ⟨z.toNat, by have := HZR.out; omega, by have := HZR.out; omega⟩))); clear hrow hk9 hat)
              go_meet
              exact ⟨n4, c4, m4, d4, p + 1, q9, A4, F4, T9, _, _, tl ++ [z], by omega, rfl, H9⟩
            · have t0 : ((dd : Int) == 0) = false := by simp [hd]
              have t1 : ((dd : Int) == 1) = true := by simp [hd]
              clear hd
              cases hv : S.liv K P with
              | none =>
                have HLV := Lib.hid (show S.get K P = none ∧ M.livI K S P = -1 ∧ S.liv K P = none from ⟨by unfold M.Tt.get; rw [hv], by unfold M.livI; rw [hv], hv⟩)
                clear hv
                go_wp2_with fail
                refine (TI.s_get HV.out.pl.st P h64).mono ?_
                rintro _ w4 ⟨rfl, b4⟩
                rw [HLV.out.1, HLV.out.2.2]
                have H4 := Lib.hid (HV.out.below b4)
                clear b4 c0 c1 c2 a3
                have c0 := H4.out.pl.bt.c0
                have c1 := H4.out.pl.bt.c1
                have c2 := H4.out.pl.bt.c2
                go_wp2_with fail
                refine (rlive_any w4 w.heap.size K S A n c F m d H4.out.pl.dc H4.out.pl.st.ok (by have := HLE.out; omega) P h64).mono ?_
                rintro _ w5 ⟨rfl, b5⟩
                rw [HLV.out.2.1]
                have H5 := Lib.hid (H4.out.below b5)
                clear b5 c0 c1 c2
                go_wp2_with fail
                refine (TI.nget w5 P h64).mono ?_
                rintro _ w6 ⟨rfl, b6⟩
                have H6 := Lib.hid (H5.out.below b6)
                clear b6
                go_wp2_with fail
                go_meet
                exact ⟨n, c, m, d, p, q, A, F, T, S, Q, tl, by omega, rfl, Lib.hid (H6.out.pl.more (by omega))⟩
              | some i =>
                obtain ⟨u1, u2, e, he, u3, u4, u5⟩ := M.liv_some hv
                have HLV := Lib.hid (show S.get K P = some e.v ∧ M.livI K S P = (i : Int) ∧ S.liv K P = some i ∧ S.s[i]? = some e from ⟨by unfold M.Tt.get; rw [hv]; simp only [he]; rfl, by unfold M.livI; rw [hv], hv, he⟩)
                clear hv u1 u2 u3 u4 u5 he
                go_wp2_with fail
                refine (TI.s_get HV.out.pl.st P h64).mono ?_
                rintro _ w4 ⟨rfl, b4⟩
                rw [HLV.out.1, HLV.out.2.2.1]
                have H4 := Lib.hid (HV.out.below b4)
                clear b4 c0 c1 c2 a3
                have c0 := H4.out.pl.bt.c0
                have c1 := H4.out.pl.bt.c1
                have c2 := H4.out.pl.bt.c2
                go_wp2_with fail
                refine (rlive_any w4 w.heap.size K S A n c F m d H4.out.pl.dc H4.out.pl.st.ok (by have := HLE.out; omega) P h64).mono ?_
                rintro _ w5 ⟨rfl, b5⟩
                rw [HLV.out.2.1]
                have H5 := Lib.hid (H4.out.below b5)
                clear b5 c0 c1 c2
                go_wp2_with fail
                refine (TI.nget w5 P h64).mono ?_
                rintro _ w6 ⟨rfl, b6⟩
                have H6 := Lib.hid (H5.out.below b6)
                clear b6
                have c1 := H6.out.pl.bt.c1
                obtain ⟨ge, rfl, hin, enl, q0, q1, q2⟩ := e_cells H6.out.pl.dc.row HLV.out.2.2.2
                obtain ⟨ev, hev⟩ : ∃ z, e.v = z := ⟨_, rfl⟩
                rw [hev] at q0
                simp only [hev]
                clear enl q1 q2 hev
                go_wp2_with fail
                go_meet
                exact ⟨n, c, m, d, p, q, _, F, T, S, Q, tl, by omega, rfl, Lib.hid (H6.out.pl.more (by omega))⟩
            · have t0 : ((dd : Int) == 0) = false := by simp [hd]
              have t1 : ((dd : Int) == 1) = false := by simp [hd]
              have t2 : ((dd : Int) == 2) = true := by simp [hd]
              clear hd
              obtain ⟨b, hb⟩ : ∃ b, (S.liv K P).isSome = b := ⟨_, rfl⟩
              have RA := Lib.hid (rset_any wa w.heap.size K S A n c F m d HV.out.pl.dc HV.out.pl.st.bel.size HV.out.pl.st.ok HLE.out P h64 v b hb)
              have HB := Lib.hid hb
              clear hb
              go_wp2_with fail
              refine RA.out.mono ?_
              rintro _ w4 ⟨A4, n4, c4, F4, m4, d4, rfl, d4', b4, mA, mF⟩
              have D4 := Lib.hid d4'
              clear d4'
              obtain ⟨w5, hw5⟩ : ∃ z, z = w4.alloc (.cells #[.int .i64 K, .slice A4 n4 c4, .slice F4 m4 d4] 29) := ⟨_, rfl⟩
              obtain ⟨g5, hg5⟩ : ∃ z, z = w4.heap.size := ⟨_, rfl⟩
              have x5 : Bt w5 g5 K A4 n4 c4 F4 m4 d4 := by rw [hw5, hg5]; exact Bt.new _ _ _ _ _ _ _ _
              have b5 : Below w4.heap.size w4 w5 := by rw [hw5]; exact (Below.refl _ _).alloc (Nat.le_refl _) _
              have HD := HV.out.docs D4.out b4 mA mF
              rw [← hw5] at HD
              have t5 := (HV.out.pl.bt.below b4).below b5
              have HD := Lib.hid HD
              go_upto_region 36 with fail
              rw [← hw5, ← hg5]
              clear hw5 hg5 c0 c1 c2 a3
              have r0 := x5.c0
              have r1 := x5.c1
              have r2 := x5.c2
              have s0 := t5.c0
              have s1 := t5.c1
              have s2 := t5.c2
              have f0 := t5.frz 0
              have f1 := t5.frz 1
              have f2 := t5.frz 2
              clear b4 b5 mA mF x5 t5
              go_upto_region 37 with fail
              obtain ⟨w6, hw6⟩ : ∃ z, z = (((w5.setCell ⟨g, 0, none⟩ (.int .i64 K)).setCell ⟨g, 1, none⟩ (.slice A4 n4 c4)).setCell ⟨g, 2, none⟩ (.slice F4 m4 d4)) := ⟨_, rfl⟩
              rw [← hw6] at HD
              rw [← hw6]
              clear hw6 r0 r1 r2 s0 s1 s2 f0 f1 f2
              have a3 := HD.out.act.c3
              simp only [Nat.zero_add] at a3
              clear t0 t1 t2
              go_wp2_with fail
              refine (TI.s_set HD.out.pl.st P h64 v).mono ?_
              rintro _ w7 ⟨rfl, h7, kk7⟩
              rw [HB.out]
              have H7 := Lib.hid (HD.out.prog h7 kk7)
              clear h7 kk7 a3
              have a3 := H7.out.act.c3
              simp only [Nat.zero_add] at a3
              cases b with
              | false =>
                go_wp2_with fail
                refine (TI.nset w7 P h64 v).mono ?_
                rintro _ w8 ⟨rfl, b8⟩
                have H8 := Lib.hid (H7.out.below b8)
                clear b8 a3
                go_wp2_with fail
                go_meet
                exact ⟨n4, c4, m4, d4, p, q, A4, F4, T, _, _, tl, by omega, rfl, Lib.hid (H8.out.pl.more (by omega))⟩
              | true =>
                go_wp2_with fail
                refine (TI.nset w7 P h64 v).mono ?_
                rintro _ w8 ⟨rfl, b8⟩
                have H8 := Lib.hid (H7.out.below b8)
                clear b8 a3
                go_wp2_with fail
                go_meet
                exact ⟨n4, c4, m4, d4, p, q, A4, F4, T, _, _, tl, by omega, rfl, Lib.hid (H8.out.pl.more (by omega))⟩
            · have t0 : ((dd : Int) == 0) = false := by simp; omega
              have t1 : ((dd : Int) == 1) = false := by simp; omega
              have t2 : ((dd : Int) == 2) = false := by simp; omega
              clear hd
              obtain ⟨b, hb⟩ : ∃ b, (S.liv K P).isSome = b := ⟨_, rfl⟩
              have RA := Lib.hid (rdrop_any wa w.heap.size K S A n c F m d HV.out.pl.dc HV.out.pl.st.bel.size HV.out.pl.st.ok HLE.out P h64 b hb)
              have HB := Lib.hid hb
              clear hb
              go_wp2_with fail
              refine RA.out.mono ?_
              rintro _ w4 ⟨A4, n4, c4, F4, m4, d4, rfl, d4', b4, mA, mF⟩
              have D4 := Lib.hid d4'
              clear d4'
              obtain ⟨w5, hw5⟩ : ∃ z, z = w4.alloc (.cells #[.int .i64 K, .slice A4 n4 c4, .slice F4 m4 d4] 29) := ⟨_, rfl⟩
              obtain ⟨g5, hg5⟩ : ∃ z, z = w4.heap.size := ⟨_, rfl⟩
              have x5 : Bt w5 g5 K A4 n4 c4 F4 m4 d4 := by rw [hw5, hg5]; exact Bt.new _ _ _ _ _ _ _ _
              have b5 : Below w4.heap.size w4 w5 := by rw [hw5]; exact (Below.refl _ _).alloc (Nat.le_refl _) _
              have HD := HV.out.docs D4.out b4 mA mF
              rw [← hw5] at HD
              have t5 := (HV.out.pl.bt.below b4).below b5
              have HD := Lib.hid HD
              go_upto_region 19 with fail
              rw [← hw5, ← hg5]
              clear hw5 hg5 c0 c1 c2 a3
              have r0 := x5.c0
              have r1 := x5.c1
              have r2 := x5.c2
              have s0 := t5.c0
              have s1 := t5.c1
              have s2 := t5.c2
              have f0 := t5.frz 0
              have f1 := t5.frz 1
              have f2 := t5.frz 2
              clear b4 b5 mA mF x5 t5
              go_upto_region 20 with fail
              obtain ⟨w6, hw6⟩ : ∃ z, z = (((w5.setCell ⟨g, 0, none⟩ (.int .i64 K)).setCell ⟨g, 1, none⟩ (.slice A4 n4 c4)).setCell ⟨g, 2, none⟩ (.slice F4 m4 d4)) := ⟨_, rfl⟩
              rw [← hw6] at HD
              rw [← hw6]
              clear hw6 r0 r1 r2 s0 s1 s2 f0 f1 f2
              have a3 := HD.out.act.c3
              simp only [Nat.zero_add] at a3
              clear t0 t1 t2
              go_wp2_with fail
              refine (TI.s_drop HD.out.pl.st (by omega) P h64).mono ?_
              rintro _ w7 ⟨rfl, h7, kk7⟩
              rw [HB.out]
              have H7 := Lib.hid (HD.out.prog h7 kk7)
              clear h7 kk7 a3
              have a3 := H7.out.act.c3
              simp only [Nat.zero_add] at a3
              cases b with
              | false =>
                go_wp2_with fail
                refine (TI.ndrop w7 P h64).mono ?_
                rintro _ w8 ⟨rfl, b8⟩
                have H8 := Lib.hid (H7.out.below b8)
                clear b8 a3
                go_wp2_with fail
                go_meet
                exact ⟨n4, c4, m4, d4, p, q, A4, F4, T, _, _, tl, by omega, rfl, Lib.hid (H8.out.pl.more (by omega))⟩
              | true =>
                go_wp2_with fail
                refine (TI.ndrop w7 P h64).mono ?_
                rintro _ w8 ⟨rfl, b8⟩
                have H8 := Lib.hid (H7.out.below b8)
                clear b8 a3
                go_wp2_with fail
                go_meet
                exact ⟨n4, c4, m4, d4, p, q, A4, F4, T, _, _, tl, by omega, rfl, Lib.hid (H8.out.pl.more (by omega))⟩
          case rest =>
            obtain ⟨n', c', m', d', p', q', A', F', T', S', Q', tl', hp', rfl, H5⟩ := hcut
            clear HV
            generalize wc = wb at *
            as_aux_lemma =>
              have hle : S'.s.length ≤ 1000 := Nat.le_trans H5.out.st.len (by omega)
              obtain ⟨r, hr⟩ : ∃ r : Int, (n' : Int) - (m' : Int) = r := ⟨_, rfl⟩
              have hn' := H5.out.dc.n_eq
              have hm' := H5.out.dc.m_eq
              have hfl := H5.out.st.ok.f_le
              have s1 : IntKind.i64.wrap ((n' : Int) - (m' : Int)) = r := by rw [IntKind.wrap_i64]; omega
              have HL := Lib.hid (show (S'.s.length : Int) - (S'.f.length : Int) = r by omega)
              have HLE := Lib.hid (show S'.s.length ≤ 900000 by omega)
              have HN' := Lib.hid hn'
              clear hle hr hn' hm' hfl
              have HSL := Lib.hid (show (S'.hs K).length ≤ 1000000 by have h1 := H5.out.st.ok.hs_len K; have h2 := HLE.out; omega)
              have HLEN := Lib.hid (TI.s_len (w := wb.drew) (H5.out.st.below (Below.refl wb.heap.size wb).drew) (by omega) r HL.out)
              have HB5 := Lib.hid (H5.out.below (Below.refl wb.heap.size wb).drew)
              have c0 := H5.out.bt.c0
              have c1 := H5.out.bt.c1
              have c2 := H5.out.bt.c2
              go_wp2_with fail
              refine wp_region_noPanic ?_
              refine wp_region_held_drew (S := fun W => W.cell? ⟨g, 0, none⟩ = some (.int .i64 K) ∧ W.cell? ⟨g, 1, none⟩ = some (.slice A' n' c') ∧ W.cell? ⟨g, 2, none⟩ = some (.slice F' m' d')) (by kernel_rfl) (⟨c0, c1, c2⟩) (fun hHeld => ?_)
              refine tkC 0 (some 179) (Op.move (Operand.tmp 6)) 24 (v := ?_) rfl (by decide +kernel) (by kernel_rfl) ?_ ‹_› ?_
              rotate_left
              ·(intro w hSw; (try dsimp only at hSw); go_simp) <;> with_reducible rfl
              (try simp only [Act.put, List.setIfInBounds_toArray, List.set_cons_zero, List.set_cons_succ])
              refine tkC 2 (some 181) (Op.fieldAddr 29 (Operand.tmp 7) 1) 0 (v := ?_) rfl (by decide +kernel) (by kernel_rfl) ?_ ‹_› ?_
              rotate_left
              ·(intro w hSw; (try dsimp only at hSw); go_simp) <;> with_reducible rfl
              (try simp only [Act.put, List.setIfInBounds_toArray, List.set_cons_zero, List.set_cons_succ])
              refine tkC 3 (some 182) (Op.load 26 (Operand.tmp 181)) 26 (v := ?_) rfl (by decide +kernel) (by kernel_rfl) ?_ ‹_› ?_
              rotate_left
              ·(intro w hSw; (try dsimp only at hSw); go_simp) <;> with_reducible rfl
              (try simp only [Act.put, List.setIfInBounds_toArray, List.set_cons_zero, List.set_cons_succ])
              refine tkC 4 (some 183) (Op.call { callee := Callee.builtin Builtin.len, args := #[Operand.tmp 182], argTypes := #[26] }) 3 (v := ?_) rfl (by decide +kernel) (by kernel_rfl) ?_ ‹_› ?_
              rotate_left
              ·(intro w hSw; (try dsimp only at hSw); go_simp) <;> with_reducible rfl
              (try simp only [Act.put, List.setIfInBounds_toArray, List.set_cons_zero, List.set_cons_succ])
              refine tkC 5 (some 184) (Op.fieldAddr 29 (Operand.tmp 7) 2) 0 (v := ?_) rfl (by decide +kernel) (by kernel_rfl) ?_ ‹_› ?_
              rotate_left
              ·(intro w hSw; (try dsimp only at hSw); go_simp) <;> with_reducible rfl
              (try simp only [Act.put, List.setIfInBounds_toArray, List.set_cons_zero, List.set_cons_succ])
              refine tkC 6 (some 185) (Op.load 27 (Operand.tmp 184)) 27 (v := ?_) rfl (by decide +kernel) (by kernel_rfl) ?_ ‹_› ?_
              rotate_left
              ·(intro w hSw; (try dsimp only at hSw); go_simp) <;> with_reducible rfl
              (try simp only [Act.put, List.setIfInBounds_toArray, List.set_cons_zero, List.set_cons_succ])
              refine tkC 7 (some 186) (Op.call { callee := Callee.builtin Builtin.len, args := #[Operand.tmp 185], argTypes := #[27] }) 3 (v := ?_) rfl (by decide +kernel) (by kernel_rfl) ?_ ‹_› ?_
              rotate_left
              ·(intro w hSw; (try dsimp only at hSw); go_simp) <;> with_reducible rfl
              (try simp only [Act.put, List.setIfInBounds_toArray, List.set_cons_zero, List.set_cons_succ])
              refine tkC 8 (some 187) (Op.binOp BinOp.sub 3 (Operand.tmp 183) (Operand.tmp 186) 3) 3 (v := ?_) rfl (by decide +kernel) (by kernel_rfl) ?_ ‹_› ?_
              rotate_left
              ·(intro w hSw; (try dsimp only at hSw); go_simp) <;> with_reducible rfl
              (try simp only [Act.put, List.setIfInBounds_toArray, List.set_cons_zero, List.set_cons_succ])
              refine rdA (rs := [1]) (by decide +kernel) ?_ rfl
              refine rcA (some 180) (Op.call { callee := Callee.value (Operand.func 18), args := #[Operand.tmp 179], argTypes := #[24] }) 3 rfl (by kernel_rfl) (fun K hK => ?_) ?_
              ·go_simp
               refine HLEN.out.mono ?_
               rintro _ w4 ⟨rfl, b4⟩
               have H6 := Lib.hid (HB5.out.below b4)
               have x0 := H6.out.bt.c0
               have x1 := H6.out.bt.c1
               have x2 := H6.out.bt.c2
               clear b4
               go_wp2_with fail
               refine hK.out _ _ ?_ (fun hHeld => ?_)
               · exact ⟨x0, x1, x2⟩
               clear hK K
               (try simp only [Act.put, List.setIfInBounds_toArray, List.set_cons_zero, List.set_cons_succ])
               refine tkC 9 (some 188) (Op.binOp BinOp.neq 3 (Operand.tmp 180) (Operand.tmp 187) 3) 4 (v := ?_) rfl (by decide +kernel) (by kernel_rfl) ?_ ‹_› ?_
               rotate_left
               ·(intro w hSw; (try dsimp only at hSw); go_simp) <;> with_reducible rfl
               (try simp only [Act.put, List.setIfInBounds_toArray, List.set_cons_zero, List.set_cons_succ])
               refine tkC 10 (some 189) (Op.move (Operand.tmp 188)) 4 (v := ?_) rfl (by decide +kernel) (by kernel_rfl) ?_ ‹_› ?_
               rotate_left
               ·(intro w hSw; (try dsimp only at hSw); go_simp) <;> with_reducible rfl
               (try simp only [Act.put, List.setIfInBounds_toArray, List.set_cons_zero, List.set_cons_succ])
               refine tkC 11 (some 190) (Op.move (Operand.tmp 6)) 24 (v := ?_) rfl (by decide +kernel) (by kernel_rfl) ?_ ‹_› ?_
               rotate_left
               ·(intro w hSw; (try dsimp only at hSw); go_simp) <;> with_reducible rfl
               (try simp only [Act.put, List.setIfInBounds_toArray, List.set_cons_zero, List.set_cons_succ])
               refine tkC 13 (some 192) (Op.load 29 (Operand.tmp 7)) 29 (v := ?_) rfl (by decide +kernel) (by kernel_rfl) ?_ ‹_› ?_
               rotate_left
               ·(intro w hSw; (try dsimp only at hSw); go_simp) <;> with_reducible rfl
               (try simp only [Act.put, List.setIfInBounds_toArray, List.set_cons_zero, List.set_cons_succ])
               refine rdA (rs := [12]) (by decide +kernel) ?_ rfl
               refine rcA (some 191) (Op.call { callee := Callee.value (Operand.func 20), args := #[Operand.tmp 190], argTypes := #[24] }) 30 rfl (by kernel_rfl) (fun K hK => ?_) ?_
               ·go_simp
                refine (TI.s_hnd H6.out.st (by omega)).mono ?_
                rintro _ w5 ⟨T5, n5, c5, rfl, r5, b5⟩
                have H7 := Lib.hid (H6.out.below b5)
                have R5 := Lib.hid r5
                have y0 := H7.out.bt.c0
                have y1 := H7.out.bt.c1
                have y2 := H7.out.bt.c2
                clear r5 b5
                go_wp2_with fail
                refine hK.out _ _ ?_ (fun hHeld => ?_)
                · exact ⟨y0, y1, y2⟩
                clear hK K
                (try simp only [Act.put, List.setIfInBounds_toArray, List.set_cons_zero, List.set_cons_succ])
                refine rdA (rs := [14]) (by decide +kernel) ?_ rfl
                refine rcA (some 193) (Op.call { callee := Callee.value (Operand.func 21), args := #[Operand.tmp 192], argTypes := #[29] }) 30 rfl (by kernel_rfl) (fun K hK => ?_) ?_
                ·go_simp
                 refine (rhnd_any w5 w.heap.size _ S' A' n' c' F' m' d' H7.out.dc H7.out.st.ok HLE.out).mono ?_
                 rintro _ w6 ⟨T6, n6, c6, rfl, r6, b6⟩
                 have H8 := Lib.hid (H7.out.below b6)
                 have HN5 := Lib.hid (And.intro (hds_len R5.out) (hds_len r6))
                 have L5 := Lib.hid (lies_row (row_below R5.out b6))
                 have L6 := Lib.hid (lies_row r6)
                 have HS5 := Lib.hid (show n5 ≤ 1000000 by have h1 := hds_len R5.out; have h2 := HSL.out; omega)
                 have z0 := H8.out.bt.c0
                 have z1 := H8.out.bt.c1
                 have z2 := H8.out.bt.c2
                 clear r6 b6
                 go_wp2_with fail
                 refine hK.out _ _ ?_ (fun hHeld => ?_)
                 · exact ⟨z0, z1, z2⟩
                 clear hK K
                 (try simp only [Act.put, List.setIfInBounds_toArray, List.set_cons_zero, List.set_cons_succ])
                 refine rdA (rs := [15]) (by decide +kernel) ?_ rfl
                 refine rcA (some 194) (Op.call { callee := Callee.value (Operand.func 19), args := #[Operand.tmp 191, Operand.tmp 193], argTypes := #[30, 30] }) 4 rfl (by kernel_rfl) (fun K hK => ?_) ?_
                 ·go_simp
                  refine (rsame_eq w6 T5 T6 n5 c5 n6 c6 _ HN5.out.1 HN5.out.2 L5.out L6.out HS5.out).mono ?_
                  rintro _ w7 ⟨rfl, b7⟩
                  have H9 := Lib.hid (H8.out.below b7)
                  have v0 := H9.out.bt.c0
                  have v1 := H9.out.bt.c1
                  have v2 := H9.out.bt.c2
                  clear b7
                  go_wp2_with fail
                  refine hK.out _ _ ?_ (fun hHeld => ?_)
                  · exact ⟨v0, v1, v2⟩
                  clear hK K
                  (try simp only [Act.put, List.setIfInBounds_toArray, List.set_cons_zero, List.set_cons_succ])
                  refine tkC 16 (some 195) (Op.unOp UnOp.not 4 (Operand.tmp 194)) 4 (v := ?_) rfl (by decide +kernel) (by kernel_rfl) ?_ ‹_› ?_
                  rotate_left
                  ·(intro w hSw; (try dsimp only at hSw); go_simp) <;> with_reducible rfl
                  (try simp only [Act.put, List.setIfInBounds_toArray, List.set_cons_zero, List.set_cons_succ])
                  refine tkC 17 (some 196) (Op.pick (Operand.tmp 189) (Operand.const (Value.bool true)) (Operand.tmp 195)) 4 (v := ?_) rfl (by decide +kernel) (by kernel_rfl) ?_ ‹_› ?_
                  rotate_left
                  ·(intro w hSw; (try dsimp only at hSw); go_simp) <;> with_reducible rfl
                  (try simp only [Act.put, List.setIfInBounds_toArray, List.set_cons_zero, List.set_cons_succ])
                  refine wpAnyH_done (by kernel_rfl) ?_ _
                  refine NoPanic.normal ?_
                  clear c0 c1 c2 x0 x1 x2 y0 y1 y2 z0 z1 z2 v0 v1 v2 s1
                  go_wp2_with fail
                  go_roundw
                  case rel => exact ⟨j + 1, n', c', m', d', p', q', A', F', T', S', Q', tl', by omega, by go_num, rfl, hp', H9⟩
                  case measure => simp [intOf]; omega
                 exact AllReadyH.nil
                exact AllReadyH.nil
               exact AllReadyH.nil
              exact AllReadyH.nil
    · have hj80 : j ≤ 80 := by omega
      as_aux_lemma =>
        have hle : S.s.length ≤ 1000 := Nat.le_trans HI.out.st.len (by omega)
        obtain ⟨r, hr⟩ : ∃ r : Int, (n : Int) - (m : Int) = r := ⟨_, rfl⟩
        have hn := HI.out.dc.n_eq
        have hm := HI.out.dc.m_eq
        have hfl := HI.out.st.ok.f_le
        have s1 : IntKind.i64.wrap ((n : Int) - (m : Int)) = r := by rw [IntKind.wrap_i64]; omega
        have HL := Lib.hid (show (S.s.length : Int) - (S.f.length : Int) = r by omega)
        have HLE := Lib.hid (show S.s.length ≤ 900000 by omega)
        have HN' := Lib.hid hn
        clear hle hr hn hm hfl
        have HLEN := Lib.hid (fun W hb => TI.s_len (w := W) (HI.out.st.below hb) (by omega) r HL.out)
        have HBB := Lib.hid (fun W hb => (HI.out.below (w' := W) hb).st.bel)
        have c0 := HI.out.bt.c0
        have c1 := HI.out.bt.c1
        have c2 := HI.out.bt.c2
        have HBT := Lib.hid HI.out.bt
        go_wp2_with fail
        refine wp_region_noPanic ?_
        refine wp_region_held_drew (S := fun W => W.cell? ⟨g, 0, none⟩ = some (.int .i64 K) ∧ W.cell? ⟨g, 1, none⟩ = some (.slice A n c) ∧ W.cell? ⟨g, 2, none⟩ = some (.slice F m d)) (by kernel_rfl) (⟨c0, c1, c2⟩) (fun hHeld => ?_)
        refine tkC 0 (some 197) (Op.move (Operand.tmp 8)) 24 (v := ?_) rfl (by decide +kernel) (by kernel_rfl) ?_ ‹_› ?_
        rotate_left
        ·(intro w hSw; (try dsimp only at hSw); go_simp) <;> with_reducible rfl
        (try simp only [Act.put, List.setIfInBounds_toArray, List.set_cons_zero, List.set_cons_succ])
        refine rdA (rs := [1]) (by decide +kernel) ?_ rfl
        refine rcA (some 198) (Op.call { callee := Callee.value (Operand.func 18), args := #[Operand.tmp 197], argTypes := #[24] }) 3 rfl (by kernel_rfl) (fun K hK => ?_) ?_
        ·go_simp
         refine (TI.nlen _).mono ?_
         rintro _ _ ⟨rfl, rfl⟩
         go_wp2_with fail
         refine hK.out _ _ ?_ (fun hHeld => ?_)
         · exact ⟨c0, c1, c2⟩
         clear hK K
         (try simp only [Act.put, List.setIfInBounds_toArray, List.set_cons_zero, List.set_cons_succ])
         refine tkC 2 (some 199) (Op.binOp BinOp.eql 3 (Operand.tmp 198) (Operand.const (Value.int IntKind.i64 0)) 3) 4 (v := ?_) rfl (by decide +kernel) (by kernel_rfl) ?_ ‹_› ?_
         rotate_left
         ·(intro w hSw; (try dsimp only at hSw); go_simp) <;> with_reducible rfl
         (try simp only [Act.put, List.setIfInBounds_toArray, List.set_cons_zero, List.set_cons_succ])
         refine tkC 3 (some 200) (Op.move (Operand.tmp 199)) 4 (v := ?_) rfl (by decide +kernel) (by kernel_rfl) ?_ ‹_› ?_
         rotate_left
         ·(intro w hSw; (try dsimp only at hSw); go_simp) <;> with_reducible rfl
         (try simp only [Act.put, List.setIfInBounds_toArray, List.set_cons_zero, List.set_cons_succ])
         refine tkC 4 (some 201) (Op.move (Operand.tmp 8)) 24 (v := ?_) rfl (by decide +kernel) (by kernel_rfl) ?_ ‹_› ?_
         rotate_left
         ·(intro w hSw; (try dsimp only at hSw); go_simp) <;> with_reducible rfl
         (try simp only [Act.put, List.setIfInBounds_toArray, List.set_cons_zero, List.set_cons_succ])
         refine rdA (rs := [5]) (by decide +kernel) ?_ rfl
         refine rcA (some 202) (Op.call { callee := Callee.value (Operand.func 20), args := #[Operand.tmp 201], argTypes := #[24] }) 30 rfl (by kernel_rfl) (fun K hK => ?_) ?_
         ·go_simp
          refine (TI.nhnd _).mono ?_
          rintro _ _ ⟨rfl, rfl⟩
          go_wp2_with fail
          refine hK.out _ _ ?_ (fun hHeld => ?_)
          · exact ⟨c0, c1, c2⟩
          clear hK K
          (try simp only [Act.put, List.setIfInBounds_toArray, List.set_cons_zero, List.set_cons_succ])
          refine tkC 6 (some 203) (Op.call { callee := Callee.builtin Builtin.len, args := #[Operand.tmp 202], argTypes := #[30] }) 3 (v := ?_) rfl (by decide +kernel) (by kernel_rfl) ?_ ‹_› ?_
          rotate_left
          ·(intro w hSw; (try dsimp only at hSw); go_simp) <;> with_reducible rfl
          (try simp only [Act.put, List.setIfInBounds_toArray, List.set_cons_zero, List.set_cons_succ])
          refine tkC 7 (some 204) (Op.binOp BinOp.eql 3 (Operand.tmp 203) (Operand.const (Value.int IntKind.i64 0)) 3) 4 (v := ?_) rfl (by decide +kernel) (by kernel_rfl) ?_ ‹_› ?_
          rotate_left
          ·(intro w hSw; (try dsimp only at hSw); go_simp) <;> with_reducible rfl
          (try simp only [Act.put, List.setIfInBounds_toArray, List.set_cons_zero, List.set_cons_succ])
          refine tkC 8 (some 205) (Op.pick (Operand.tmp 200) (Operand.tmp 204) (Operand.const (Value.bool false))) 4 (v := ?_) rfl (by decide +kernel) (by kernel_rfl) ?_ ‹_› ?_
          rotate_left
          ·(intro w hSw; (try dsimp only at hSw); go_simp) <;> with_reducible rfl
          (try simp only [Act.put, List.setIfInBounds_toArray, List.set_cons_zero, List.set_cons_succ])
          refine tkC 9 (some 206) (Op.move (Operand.tmp 205)) 4 (v := ?_) rfl (by decide +kernel) (by kernel_rfl) ?_ ‹_› ?_
          rotate_left
          ·(intro w hSw; (try dsimp only at hSw); go_simp) <;> with_reducible rfl
          (try simp only [Act.put, List.setIfInBounds_toArray, List.set_cons_zero, List.set_cons_succ])
          refine tkC 10 (some 207) (Op.move (Operand.tmp 6)) 24 (v := ?_) rfl (by decide +kernel) (by kernel_rfl) ?_ ‹_› ?_
          rotate_left
          ·(intro w hSw; (try dsimp only at hSw); go_simp) <;> with_reducible rfl
          (try simp only [Act.put, List.setIfInBounds_toArray, List.set_cons_zero, List.set_cons_succ])
          refine tkC 12 (some 209) (Op.fieldAddr 29 (Operand.tmp 7) 1) 0 (v := ?_) rfl (by decide +kernel) (by kernel_rfl) ?_ ‹_› ?_
          rotate_left
          ·(intro w hSw; (try dsimp only at hSw); go_simp) <;> with_reducible rfl
          (try simp only [Act.put, List.setIfInBounds_toArray, List.set_cons_zero, List.set_cons_succ])
          refine tkC 13 (some 210) (Op.load 26 (Operand.tmp 209)) 26 (v := ?_) rfl (by decide +kernel) (by kernel_rfl) ?_ ‹_› ?_
          rotate_left
          ·(intro w hSw; (try dsimp only at hSw); go_simp) <;> with_reducible rfl
          (try simp only [Act.put, List.setIfInBounds_toArray, List.set_cons_zero, List.set_cons_succ])
          refine tkC 14 (some 211) (Op.call { callee := Callee.builtin Builtin.len, args := #[Operand.tmp 210], argTypes := #[26] }) 3 (v := ?_) rfl (by decide +kernel) (by kernel_rfl) ?_ ‹_› ?_
          rotate_left
          ·(intro w hSw; (try dsimp only at hSw); go_simp) <;> with_reducible rfl
          (try simp only [Act.put, List.setIfInBounds_toArray, List.set_cons_zero, List.set_cons_succ])
          refine tkC 15 (some 212) (Op.fieldAddr 29 (Operand.tmp 7) 2) 0 (v := ?_) rfl (by decide +kernel) (by kernel_rfl) ?_ ‹_› ?_
          rotate_left
          ·(intro w hSw; (try dsimp only at hSw); go_simp) <;> with_reducible rfl
          (try simp only [Act.put, List.setIfInBounds_toArray, List.set_cons_zero, List.set_cons_succ])
          refine tkC 16 (some 213) (Op.load 27 (Operand.tmp 212)) 27 (v := ?_) rfl (by decide +kernel) (by kernel_rfl) ?_ ‹_› ?_
          rotate_left
          ·(intro w hSw; (try dsimp only at hSw); go_simp) <;> with_reducible rfl
          (try simp only [Act.put, List.setIfInBounds_toArray, List.set_cons_zero, List.set_cons_succ])
          refine tkC 17 (some 214) (Op.call { callee := Callee.builtin Builtin.len, args := #[Operand.tmp 213], argTypes := #[27] }) 3 (v := ?_) rfl (by decide +kernel) (by kernel_rfl) ?_ ‹_› ?_
          rotate_left
          ·(intro w hSw; (try dsimp only at hSw); go_simp) <;> with_reducible rfl
          (try simp only [Act.put, List.setIfInBounds_toArray, List.set_cons_zero, List.set_cons_succ])
          refine tkC 18 (some 215) (Op.binOp BinOp.sub 3 (Operand.tmp 211) (Operand.tmp 214) 3) 3 (v := ?_) rfl (by decide +kernel) (by kernel_rfl) ?_ ‹_› ?_
          rotate_left
          ·(intro w hSw; (try dsimp only at hSw); go_simp) <;> with_reducible rfl
          (try simp only [Act.put, List.setIfInBounds_toArray, List.set_cons_zero, List.set_cons_succ])
          refine rdA (rs := [11]) (by decide +kernel) ?_ rfl
          refine rcA (some 208) (Op.call { callee := Callee.value (Operand.func 18), args := #[Operand.tmp 207], argTypes := #[24] }) 3 rfl (by kernel_rfl) (fun K hK => ?_) ?_
          ·go_simp
           refine (HLEN.out _ (Below.refl wr.heap.size wr).drew).mono ?_
           rintro _ w4 ⟨rfl, b4⟩
           have BB := Lib.hid (below_call (HBB.out _ (Below.refl wr.heap.size wr).drew) b4)
           have t4 := (HBT.out.below (Below.refl wr.heap.size wr).drew).below b4
           have x0 := t4.c0
           have x1 := t4.c1
           have x2 := t4.c2
           clear b4 t4
           go_wp2_with fail
           refine hK.out _ _ ?_ (fun hHeld => ?_)
           · exact ⟨x0, x1, x2⟩
           clear hK K
           (try simp only [Act.put, List.setIfInBounds_toArray, List.set_cons_zero, List.set_cons_succ])
           refine tkC 19 (some 216) (Op.binOp BinOp.eql 3 (Operand.tmp 208) (Operand.tmp 215) 3) 4 (v := ?_) rfl (by decide +kernel) (by kernel_rfl) ?_ ‹_› ?_
           rotate_left
           ·(intro w hSw; (try dsimp only at hSw); go_simp) <;> with_reducible rfl
           (try simp only [Act.put, List.setIfInBounds_toArray, List.set_cons_zero, List.set_cons_succ])
           refine tkC 20 (some 217) (Op.pick (Operand.tmp 206) (Operand.tmp 216) (Operand.const (Value.bool false))) 4 (v := ?_) rfl (by decide +kernel) (by kernel_rfl) ?_ ‹_› ?_
           rotate_left
           ·(intro w hSw; (try dsimp only at hSw); go_simp) <;> with_reducible rfl
           (try simp only [Act.put, List.setIfInBounds_toArray, List.set_cons_zero, List.set_cons_succ])
           refine tkC 21 (some 4) (Op.assign (Operand.tmp 217)) 4 (v := ?_) rfl (by decide +kernel) (by kernel_rfl) ?_ ‹_› ?_
           rotate_left
           ·(intro w hSw; (try dsimp only at hSw); go_simp) <;> with_reducible rfl
           (try simp only [Act.put, List.setIfInBounds_toArray, List.set_cons_zero, List.set_cons_succ])
           refine wpAnyH_done (by kernel_rfl) ?_ _
           refine NoPanic.normal ?_
           clear c0 c1 c2 x0 x1 x2
           go_wp2_with fail
           go_ret
           exact ⟨retB (by simp), BB.out⟩
          exact AllReadyH.nil
         exact AllReadyH.nil
        exact AllReadyH.nil

/-! The row's step. -/
set_option maxRecDepth 100000 in
theorem lifted (os : Os) (started : os.Started) (H : Type) (enc : TypeId × Value → H) :
    ReturnsInHanded {} Try.checked os 3 .any (Rows.tablePlaysSpec.pre6 enc Try.prog Try.f3 Rows.tablePlaysRow.domain false) (Rows.tablePlaysSpec.post enc Try.prog Try.f3 false true false false) := by
  refine returnsInHanded_of_change (C := Try.checked) own started (by kernel_rfl) Try.func3
    (ChangeSpec.witness6 (enc := enc) (C := Try.checked) false ⟨#[], #[.int .i64 0, .slice none 0 0], []⟩ 8 (by kernel_rfl) (by kernel_rfl) (by kernel_rfl) (by kernel_rfl)) ?_
  intro W base args ds gs before hval0 hW hcnd _
  have hval : ∀ (j : Nat) t v, Try.f3.params[j]? = some t → args[j]? = some v → Value.okWide Try.prog W .any base t v := hval0
  have hW' := hW
  obtain ⟨p, q, hA0, hV, rfl, hfz, hnd⟩ := hW
  have hA : DataW.TrodAll enc Try.prog W 0 (fun _ => true) true Try.f3.params.toList args.toList ds p := hA0
  rw [Try.params3] at hA hval
  obtain ⟨v0, vs0, d0, ds0, p0, q0, hargs, rfl, rfl, h0, r0⟩ := trodAll_cons hA
  obtain ⟨v1, vs1, d1, ds1, p1, q1, rfl, rfl, rfl, h1, r1⟩ := trodAll_cons r0
  obtain ⟨rfl, rfl, rfl⟩ := trodAll_nil r1
  obtain rfl : args = #[v0, v1] := by cases args; simp_all
  obtain ⟨rfl, rfl⟩ := trodVars_none hV
  obtain ⟨a0, rfl, rfl, rfl, w0⟩ := open_int Try.underlying3 (hval 0 3 v0 rfl rfl) h0
  obtain ⟨a1, len1, cap1, rfl⟩ := okWide_slice Try.underlying22 (hval 1 22 v1 rfl rfl)
  have k1 := h1
  have lt1 : ∀ x ∈ p1, x.block < W.heap.size := by obtain ⟨m, hm⟩ := k1; exact DataW.trod_lt m _ _ _ hm
  have w1 : IsActs W a1 len1 := by
    obtain ⟨fuel, hf⟩ := h1
    obtain ⟨A, l, c, hcs, hw⟩ := acts_open hf
    simp [Value.cells] at hcs
    obtain ⟨rfl, rfl, rfl⟩ := hcs
    exact hw
  clear hA0 hval0
  refine (walk a0 a1 len1 cap1 W w0 w1).mono fun e W' ⟨he, bel⟩ => ?_
  subst he
  exact ⟨_, rfl, _, _, _, [], _, [], hW', trodAll_mk1 (shut_bool Try.underlying4 _), (trodAll_cons_mk (shut_int Try.underlying3 w0) (trodAll_cons_mk (Below.trod laidOut (by kernel_rfl) (of_decide_eq_true (by kernel_rfl)) k1 bel lt1) trodAll_mk0)), rfl, bel.frame _, fun h => by cases h⟩

theorem over : Rows.tablePlaysRow.holds Try.pinned (OpenSpec.ofChange Rows.tablePlaysSpec) :=
  OpenClaim.holds_of_wide 3 Try.f3 rfl rfl rfl rfl rfl rfl rfl ⟨rfl, rfl, rfl, rfl, rfl⟩ rfl rfl rfl rfl rfl (by kernel_rfl) Try.func3 (by kernel_rfl)
    (of_decide_eq_true (by kernel_rfl)) (by unfold Func.isWrapper; first | (rw [if_pos (by decide +kernel)]; kernel_rfl) | (rw [if_neg (by decide +kernel)]; exact ⟨rfl, rfl⟩))
    (fun os started H enc _ => lifted os started H enc)

/-- The statement. -/
theorem proved : Rows.TablePlaysSaid := over
#print axioms proved
end Go.Proofs.Ytbkdlblpoohliaa.tablePlays
