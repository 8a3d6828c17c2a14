/-
  PileWalk: what is walked is what was pushed and not popped, the last one first, each with its owner; piles of one store play no part for one another; for every input the law returns true, and the arguments read behind the call as they read before. No condition.
-/
import Derived.Test.YtmagdhcpbofkbaaRows
import Derived.WalkKit
import Derived.ProofKit
import Derived.OpenShut
import Derived.ShutString
import Derived.ChangeOld
import Derived.Below
import Derived.Test.YtmagdhcpbofkbaaK16
import Derived.Test.YtmagdhcpbofkbaaK0
import Derived.Deep.CutBlock
import Derived.Deep.DeepCutAuto
namespace Go.Proofs.Ytmagdhcpbofkbaa.pileWalk
open Go.ChangeShapes Go.WideShapes Go.ChangeAt Go.RowKit
set_option linter.unusedVariables false

theorem own : ownKnob Try.prog.godebug = none := by kernel_rfl

/-! The walk. -/
set_option maxRecDepth 20000 in
set_option maxHeartbeats 16000000 in
theorem walk (a0 : Option Addr) (len0 cap0 : Nat) (z0 : List Int) (a1 : Int) (a2 : Int) (w : World) (w0 : IsRow .u8 w a0 len0 cap0 z0) (w1 : (Lit.int .u8 a1).wf = true) (w2 : (Lit.int .u8 a2).wf = true) :
    Calls Try.prog 3 #[.slice a0 len0 cap0, .int .u8 a1, .int .u8 a2] w fun e w' => e = .returned (.bool true) ∧ Below w.heap.size w w' := by
  obtain ⟨ks, hks, hkb, hkc⟩ := bytes14 w0
  obtain ⟨n0, hn0, rfl⟩ := u8_nat w1
  obtain ⟨n1, hn1, rfl⟩ := u8_nat w2
  have HA := Lib.hid (And.intro hks (And.intro hkb hkc))
  clear w0 w1 w2 hks hkb hkc
  go_enter Try.func3, Try.ntmps3
  go_wp2_with fail
  refine (awake14_any _).mono ?_
  rintro e w1 ⟨rfl, b1⟩
  have B1 := Lib.hid b1
  clear b1
  by_cases h20 : 20 < len0
  · have d20 : decide (20 < (len0 : Int)) = true := by simp; omega
    go_wp2_with fail
    go_ret
    exact ⟨rfl, B1.out⟩
  have d20 : decide (20 < (len0 : Int)) = false := by simp; omega
  go_wp2_with fail
  clear d20
  refine (cnew_any B1.out 2000 2000 (by decide)).mono ?_
  rintro e w2 ⟨s, a, b, c, Q0, rfl, h2, _, _, _⟩
  have H2 := Lib.hid h2
  clear h2
  go_wp2_with fail
  refine (pnew_any w2 (some ⟨s, 0, none⟩) 0 5).mono ?_
  rintro e w3 ⟨rfl, x3, b3⟩
  have H3 := Lib.hid (And.intro x3 b3)
  clear x3 b3
  go_wp2_with fail
  refine (pnew_any w3 (some ⟨s, 0, none⟩) 1 6).mono ?_
  rintro e w4 ⟨rfl, x4, b4⟩
  have h3 := t_new (k1 := 0) (o1 := 5) (k2 := 1) (o2 := 6) (w' := w3) H2.out H3.out.2 H3.out.1
  have h4 := t_new2 h3 b4 x4
  have hs2 := H2.out.bx.lt
  have N1 := Lib.hid (show w2.heap.size ≠ 0 by omega)
  have N2 := Lib.hid h4.1
  have H4 := Lib.hid (show St2 w w4 s a b c 2000 (St.new 2000) (rowD none) (60 * 0) w2.heap.size 0 5 [] w3.heap.size 1 6 [] ∧ Lw (St.new 2000) [] [] (71 * (0 : Nat)) (6 * 0) 0 ∧ Runs w4 none [] ∧ 0 = ([] : List M.R).length ∧ 0 ≤ 0 from ⟨h4.2.less (fun x e => absurd e (rowD_none x)), Lw.new _, Runs.nil, rfl, Nat.le_refl _⟩)
  clear x4 b4 H2 H3 h3 h4 hs2
  generalize w2.heap.size = p at *
  generalize w3.heap.size = q at *
  go_wp2_with fail
  go_loopw [11, 12, 13, 14, 15] (fun v i _ _ _ wr => ∃ (j c' : Nat) (A : Option Addr) (Z : St) (L1 L2 : List M.R), j ≤ len0 ∧ v = .slice A j c' ∧ i = .int .i64 (j : Int) ∧ Hid (St2 w wr s a b c 2000 Z (rowD A) (60 * j) p 0 5 L1 q 1 6 L2 ∧ Lw Z L1 L2 (71 * (j : Nat)) (6 * j) (2 * j) ∧ Runs wr A L1 ∧ j = L1.length ∧ j ≤ c')) (fun _ i _ _ _ _ => len0 - (intOf i).toNat)
  case atStart => exact ⟨0, 0, none, _, [], [], by omega, rfl, rfl, H4⟩
  case round =>
    clear H4
    obtain ⟨j, c', A, Z, L1, L2, hj, rfl, rfl, HI⟩ := hrel
    by_cases hlt : j < len0
    · have hjk : j < ks.length := by have := HA.out.1; omega
      obtain ⟨ad0, rfl, hc0⟩ := HA.out.2.2 (by omega)
      have f0 := hc0 j hjk
      have hk8 := HA.out.2.1 _ (List.getElem_mem hjk)
      generalize ks[j] = kk at *
      have e0 : wr.cell? (ad0.add j) = some (.int .u8 (kk : Int)) := (HI.out.1.bel.cell (lt_of_cell f0)).trans f0
      clear f0 hc0
      have hj20 : j < 20 := by omega
      obtain ⟨pg, hpg⟩ : ∃ z : Int, z = (kk : Int) % 70 + 1 := ⟨_, rfl⟩
      have HPG := Lib.hid (show 1 ≤ pg ∧ pg ≤ 70 by omega)
      have lp := HI.out.2.1.push HI.out.1.du (by omega) (by omega) (by omega) HPG.out.1 HPG.out.2 (by omega)
      have LP := Lib.hid (And.intro lp.1 (And.intro lp.2.1 (lp.2.2.more (T' := 71 * (j : Nat) + 70) (by have := (ck70 pg HPG.out.1 HPG.out.2).1; omega) (Nat.le_refl _) (Nat.le_refl _))))
      clear lp
      go_wp2_with fail
      rw [← hpg]
      clear hpg e0
      refine (t_push HI.out.1 (by omega) (by have := HI.out.2.1.tk; omega) (by omega) (by have := HI.out.2.1.l1; omega) pg).mono ?_
      rintro e w4 ⟨rfl, h4, k4⟩
      rw [LP.out.2.1] at h4
      rw [LP.out.1]
      obtain ⟨pv, hpv⟩ : ∃ z, z = gtP 2000 Z pg (0 : Nat) := ⟨_, rfl⟩
      obtain ⟨nv, hnv⟩ : ∃ z, z = gtN 2000 Z pg (0 : Nat) := ⟨_, rfl⟩
      obtain ⟨Z4, hZ4⟩ : ∃ z, z = Z.psh 2000 L1 pg (0 : Nat) 5 := ⟨_, rfl⟩
      have lw4 := LP.out.2.2
      rw [← hpv, ← hnv, ← hZ4] at h4 lw4
      rw [← hpv, ← hnv]
      have H4 := Lib.hid (show St2 w w4 s a b c 2000 Z4 (rowD A) (60 * j + 30) p 0 5 (⟨pv, nv⟩ :: L1) q 1 6 L2 ∧ Lw Z4 (⟨pv, nv⟩ :: L1) L2 (71 * (j : Nat) + 70) (6 * j + 3) (2 * j + 1) ∧ Runs w4 A L1 ∧ j = L1.length from ⟨h4, lw4, HI.out.2.2.1.keptR k4 (fun x e => e), HI.out.2.2.2.1⟩)
      clear h4 k4 hpv hnv hZ4 lw4
      obtain ⟨w5, hw5⟩ : ∃ z, z = w4.alloc (.cells #[.int .i64 pv, .int .i64 nv] 34) := ⟨_, rfl⟩
      have R5 := Lib.hid (show Runs w5 A L1 ∧ w5 = w4.alloc (.cells #[.int .i64 pv, .int .i64 nv] 34) from ⟨by rw [hw5]; exact H4.out.2.2.1.alloc _, hw5⟩)
      clear LP HI
      go_upto_region 16 with fail
      go_upto_region 17 with (at_builtin; rw [← hw5]; refine wpList_app_front rfl _ _ rfl w4 w5 pv nv w4.heap.size R5.out.2 rfl rfl A j c' L1 rfl H4.out.2.2.2 R5.out.1 (by omega) ?_; clear hw5; intro g1 c1 w6 hv6 hb6 hc6; (have HAP := Lib.hid (And.intro hv6 (And.intro hb6 hc6))); clear hv6 hb6 hc6)
      have low1 := HAP.out.1.low (x := g1) ⟨_, rfl, rfl⟩
      have one : ∀ x, rowD (some ⟨g1, 0, none⟩) x → x = g1 := fun x hx => by obtain ⟨ad, e, rfl⟩ := hx; cases e; rfl
      have H6 := Lib.hid (show St2 w w6 s a b c 2000 Z4 (rowD (some ⟨g1, 0, none⟩)) (60 * j + 30) p 0 5 (⟨pv, nv⟩ :: L1) q 1 6 L2 ∧ Runs w6 (some ⟨g1, 0, none⟩) (⟨pv, nv⟩ :: L1) ∧ j + 1 = (M.R.mk pv nv :: L1).length from ⟨H4.out.1.own (Kept.of_below HAP.out.2.1 (fun _ => False)) (fun x e => e.elim) (fun x e => .inr (by rw [one x e]; exact low1)), HAP.out.1.runs, by rw [List.length_cons, ← H4.out.2.2.2]⟩)
      have HC1 := Lib.hid HAP.out.2.2
      have LW := Lib.hid H4.out.2.1
      clear low1 one HAP H4
      by_cases h3 : n1 % 3 = 0
      · have t3 : ((n1 : Int) % 3 == 0) = true := by simp; omega
        have t3' : ((n1 : Int).tmod 3 == 0) = true := by rw [Int.tmod_eq_emod_of_nonneg (by omega)]; exact t3
        have lq := LW.out.swap.push (H6.out.1.du.swap) (by omega) (by omega) (by omega) (pages := 1) (by omega) (by omega) (by omega)
        have LQ := Lib.hid (And.intro lq.2.1 lq.2.2.swap)
        clear lq
        go_wp2_with fail
        refine (t_push (H6.out.1.swap N2.out) (by omega) (by have := LW.out.tk; omega) (by omega) (by have := LW.out.l2; omega) 1).mono ?_
        rintro e w7 ⟨rfl, h7, k7⟩
        rw [LQ.out.1] at h7
        have H7 := Lib.hid (show St2 w w7 s a b c 2000 _ (rowD (some ⟨g1, 0, none⟩)) (60 * j + 30 + 30) p 0 5 (⟨pv, nv⟩ :: L1) q 1 6 _ ∧ Runs w7 (some ⟨g1, 0, none⟩) (⟨pv, nv⟩ :: L1) from ⟨h7.swap N1.out, H6.out.2.1.keptR k7 (fun x e => e)⟩)
        clear h7 k7 t3 t3'
        go_wp2_with fail
        go_roundw
        case rel => exact ⟨j + 1, c1, _, _, _, _, hlt, by rfl, by go_num, Lib.hid ⟨H7.out.1.more (by omega), LQ.out.2.more (by rw [ck1]; omega) (by omega) (by omega), H7.out.2, H6.out.2.2, HC1.out⟩⟩
        case measure => simp [intOf]; omega
      · have t3 : ((n1 : Int) % 3 == 0) = false := by simp; omega
        have t3' : ((n1 : Int).tmod 3 == 0) = false := by rw [Int.tmod_eq_emod_of_nonneg (by omega)]; exact t3
        go_wp2_with fail
        go_roundw
        case rel => exact ⟨j + 1, c1, _, _, _, _, hlt, by rfl, by go_num, Lib.hid ⟨H6.out.1.more (by omega), LW.out.more (by omega) (by omega) (by omega), H6.out.2.1, H6.out.2.2, HC1.out⟩⟩
        case measure => simp [intOf]; omega
    · have e : j = len0 := by omega
      have hL20 : L1.length ≤ 20 := by have := HI.out.2.2.2.1; omega
      have HZ := Lib.hid (show Z.u ≤ 120 ∧ j ≤ 20 from ⟨by have := HI.out.2.1.tk; omega, by omega⟩)
      obtain ⟨R, hR⟩ : ∃ z, z = rowD A := ⟨_, rfl⟩
      have H5 := Lib.hid (show St2 w wr s a b c 2000 Z R (1200 + 0) p 0 5 L1 q 1 6 L2 ∧ Z.u ≤ 120 + 4 * 0 ∧ L1.length ≤ 20 ∧ Runs wr A L1 ∧ j = L1.length ∧ j ≤ c' ∧ (∀ x, rowD A x → R x) from ⟨by rw [hR]; exact HI.out.1.more (by omega), by have := HZ.out; omega, hL20, HI.out.2.2.1, HI.out.2.2.2.1, HI.out.2.2.2.2, fun x e => by rw [hR]; exact e⟩)
      clear hL20 HI hR e
      go_upto_block 2 with fail
      go_cut [11, 16, 17, 18, 19] (fun v _ _ _ _ wx => ∃ (t c' : Nat) (A : Option Addr) (Z : St) (L1 : List M.R), t ≤ 20 ∧ v = .slice A t c' ∧ Hid (St2 w wx s a b c 2000 Z R 1500 p 0 5 L1 q 1 6 L2 ∧ Z.u ≤ 2000 ∧ Runs wx A L1 ∧ t = L1.length ∧ (∀ x, rowD A x → R x)))
      case first =>
        go_wp2_with fail
        go_loopw [11, 16, 17, 18, 19] (fun v i _ _ _ wr => ∃ (k t c' : Nat) (A : Option Addr) (Z : St) (L1 : List M.R), k ≤ n0 ∧ t ≤ 20 ∧ v = .slice A t c' ∧ i = .int .i64 (k : Int) ∧ Hid (St2 w wr s a b c 2000 Z R (1200 + k) p 0 5 L1 q 1 6 L2 ∧ Z.u ≤ 120 + 4 * k ∧ L1.length ≤ 20 ∧ Runs wr A L1 ∧ t = L1.length ∧ t ≤ c' ∧ (∀ x, rowD A x → R x))) (fun _ i _ _ _ _ => n0 - (intOf i).toNat)
        case atStart => exact ⟨0, j, c', A, Z, L1, by omega, by have := HZ.out; omega, rfl, rfl, H5⟩
        case round =>
          clear H5
          obtain ⟨k, t, c', A, Z, L1, hk, ht20, rfl, rfl, HI⟩ := hrel
          by_cases hkn : k < n0
          · cases L1 with
            | nil =>
              have ht0 : t = 0 := HI.out.2.2.2.2.1
              subst ht0
              go_wp2_with fail
              go_meet
              exact ⟨0, c', A, Z, [], by omega, rfl, Lib.hid ⟨HI.out.1.more (by omega), by have := HI.out.2.1; omega, HI.out.2.2.2.1, rfl, HI.out.2.2.2.2.2.2⟩⟩
            | cons r L1 =>
              obtain ⟨rp, rn⟩ := r
              have ht1 : 0 < t := by rw [HI.out.2.2.2.2.1]; simp
              have hti : (0 : Int) < (t : Int) := by omega
              go_wp2_with fail
              refine (t_pop HI.out.1 (by omega) (by have := HI.out.2.1; omega) (by have := HI.out.2.2.1; simp only [List.length_cons] at this; omega)).mono ?_
              rintro e w4 ⟨rfl, h4, k4⟩
              have r4 := HI.out.2.2.2.1.keptR k4 HI.out.2.2.2.2.2.2
              obtain ⟨A', hcut, hrun, hrow⟩ := rcut14_one (r := ⟨rp, rn⟩) (L := L1) (A := A) (c := c') t HI.out.2.2.2.2.1 HI.out.2.2.2.2.2.1
              have H4 := Lib.hid (show St2 w w4 s a b c 2000 (Z.pop 2000 ⟨rp, rn⟩) R (1200 + (k + 1)) p 0 5 L1 q 1 6 L2 ∧ (Z.pop 2000 ⟨rp, rn⟩).u ≤ 120 + 4 * (k + 1) ∧ L1.length ≤ 20 ∧ Runs w4 A' L1 ∧ t - 1 = L1.length ∧ t - 1 ≤ c' - 1 ∧ (∀ x, rowD A' x → R x) from
                ⟨h4.more (by omega), (show Z.u + 1 + 3 ≤ _ by have := HI.out.2.1; omega), (by have := HI.out.2.2.1; simp only [List.length_cons] at this; omega), hrun _ r4, (by have := HI.out.2.2.2.2.1; simp only [List.length_cons] at this; omega), (by have := HI.out.2.2.2.2.2.1; omega), fun x e => HI.out.2.2.2.2.2.2 x (hrow x e)⟩)
              obtain ⟨bl, o, hA, g0, g1⟩ := runs_at r4 (j := 0) (by simp)
              simp only [List.getElem_cons_zero, Nat.zero_mul, Nat.add_zero] at g0 g1
              subst hA
              clear h4 k4 r4 hrun hrow HI
              go_wp2_with fail
              go_roundw
              case rel => exact ⟨k + 1, t - 1, c' - 1, A', _, L1, hkn, by omega, rfl, by go_num, H4⟩
              case measure => simp [intOf]; omega
          · go_wp2_with fail
            go_meet
            exact ⟨t, c', A, Z, L1, ht20, rfl, Lib.hid ⟨HI.out.1.more (by omega), by have := HI.out.2.1; omega, HI.out.2.2.2.1, HI.out.2.2.2.2.1, HI.out.2.2.2.2.2.2⟩⟩
      case rest =>
        clear H5
        obtain ⟨t, c'', A', Z', L1', ht20, rfl, HW⟩ := hcut
        generalize wc = wb at *
        as_aux_lemma =>
          have HL20 := Lib.hid (show L1'.length ≤ 20 from by rw [← HW.out.2.2.2.1]; exact ht20)
          go_wp2_with fail
          refine (t_walk HW.out.1 (by omega) (by have := HW.out.2.1; have := HL20.out; omega) (by have := HL20.out; omega)).mono ?_
          rintro e w5 ⟨t5, A5, c5, rfl, ht5, h5, v5, k5⟩
          obtain ⟨R5, hR5⟩ : ∃ z, z = fun x => R x ∨ rowD A5 x := ⟨_, rfl⟩
          rw [← hR5] at h5
          have H5 := Lib.hid (show St2 w w5 s a b c 2000 { Z' with u := Z'.u + t5 } R5 1500 p 0 5 L1' q 1 6 L2 ∧ Runs w5 A5 L1' ∧ Runs w5 A' L1' from ⟨h5, v5.runs, HW.out.2.2.1.keptR k5 HW.out.2.2.2.2⟩)
          have HR := Lib.hid (show (∀ x, rowD A5 x → R5 x) ∧ (∀ x, rowD A' x → R5 x) from by rw [hR5]; exact ⟨fun x e => .inr e, fun x e => .inl (HW.out.2.2.2.2 x e)⟩)
          have HT := Lib.hid (show t5 = L1'.length ∧ t = L1'.length ∧ t5 = t ∧ t5 ≤ 20 from ⟨ht5, HW.out.2.2.2.1, by rw [ht5, ← HW.out.2.2.2.1], by rw [ht5]; exact HL20.out⟩)
          have HU := Lib.hid (show Z'.u + t5 ≤ 2020 from by have := HW.out.2.1; have := HT.out; omega)
          clear h5 v5 k5 ht5 hR5 HW
          go_wp2_with fail
          refine (same_eq14 w5 A5 A' L1' t5 c5 t c'' HT.out.1 HT.out.2.1 H5.out.2.1 H5.out.2.2 (by have := HT.out; omega)).mono ?_
          rintro e w6 ⟨rfl, b6⟩
          have H6 := Lib.hid (show St2 w w6 s a b c 2000 { Z' with u := Z'.u + t5 } R5 1500 p 0 5 L1' q 1 6 L2 ∧ Runs w6 A5 L1' ∧ Runs w6 A' L1' from ⟨H5.out.1.below b6, H5.out.2.1.below b6, H5.out.2.2.below b6⟩)
          clear b6 H5
          go_wp2_with fail
          refine (t_len H6.out.1).mono ?_
          rintro e w' ⟨rfl, rfl⟩
          rw [← HT.out.2.1]
          go_wp2_with fail
          go_loopw [22, 23, 24] (fun i _ _ wy => ∃ (k : Nat) (Y : St), k ≤ t5 ∧ i = .int .i64 (k : Int) ∧ Hid (St2 w wy s a b c 2000 Y R5 1500 p 0 5 L1' q 1 6 L2 ∧ Runs wy A5 L1' ∧ Runs wy A' L1' ∧ Y.u ≤ 2020 + k)) (fun i _ _ _ => t5 - (intOf i).toNat)
          case atStart => exact ⟨0, _, by omega, rfl, Lib.hid ⟨H6.out.1, H6.out.2.1, H6.out.2.2, HU.out⟩⟩
          case round =>
            clear H6
            obtain ⟨k, Y, hk, rfl, HI⟩ := hrel
            generalize wr = wy at *
            by_cases hlt : k < t5
            · have hkl : k < L1'.length := by have := HT.out; omega
              have hk20 : k < 20 := by have := HT.out; omega
              obtain ⟨bl, o, rfl, g0, g1⟩ := runs_at HI.out.2.1 hkl
              have hst := HI.out.1.du.c1.at k hkl
              have hin := HI.out.1.du.inv.in (List.mem_append.2 (.inl (List.getElem_mem hkl)))
              obtain ⟨rp, hrp⟩ : ∃ z, z = L1'[k].p := ⟨_, rfl⟩
              obtain ⟨rn, hrn⟩ : ∃ z, z = L1'[k].n := ⟨_, rfl⟩
              rw [← hrp] at g0 hst hin
              rw [← hrn] at g1 hst hin
              obtain ⟨nn, hnn⟩ : ∃ z, z = nx (L1'.drop (k + 1)) := ⟨_, rfl⟩
              rw [← hnn] at hst
              have HP := Lib.hid (show rp = (rp.toNat : Int) ∧ rn = (rn.toNat : Int) ∧ rp.toNat < 2000 from by omega)
              have RD0 := fun (W : World) (R' : Nat → Prop) (hW : St2 w W s a b c 2000 Y R' 1500 p 0 5 L1' q 1 6 L2) => t_read hW (by have := HI.out.2.2.2; omega) rp rp.toNat rn.toNat 0 5 nn HP.out.1 HP.out.2.2 hst
              rw [← HP.out.2.1] at RD0
              have RD := Lib.hid RD0
              have hRb : R5 bl := HR.out.1 bl ⟨_, rfl, rfl⟩
              have HC := Lib.hid (show ∀ W, Kept wy W (fun x => ¬ R5 x ∧ w.heap.size ≤ x) → W.cell? ⟨bl, o + k * 2, none⟩ = some (.int .i64 rp) ∧ W.cell? ⟨bl, o + k * 2 + 1, none⟩ = some (.int .i64 rn) from fun W hW => ⟨hW.cell_some g0 (fun e => e.1 hRb), hW.cell_some g1 (fun e => e.1 hRb)⟩)
              have hkI : (k : Int) < (t5 : Int) := by omega
              clear RD0 hst hin hrp hrn hnn hRb g0 g1
              go_upto_region 32 with fail
              go_cut [23, 24] (fun s23 s24 wx => ∃ (g8 : Nat), s23 = .pointer (some ⟨g8, 0, none⟩) ∧ s24 = .int .i64 0 ∧ Hid (St2 w wx s a b c 2000 { Y with u := Y.u + 1 } R5 1500 p 0 5 L1' q 1 6 L2 ∧ Box4 wx g8 (.int .i64 rn) (.int .i64 0) (.int .u64 5) (.int .u64 (nn : Int)) ∧ Kept wy wx (fun x => ¬ R5 x ∧ w.heap.size ≤ x)))
              case first =>
                refine wp_region_noPanic ?_
                refine wp_region_held_drew (S := fun W => W.cell? ⟨bl, o + k * 2, none⟩ = some (.int .i64 rp) ∧ W.cell? ⟨bl, o + k * 2 + 1, none⟩ = some (.int .i64 rn)) (by kernel_rfl) (HC.out _ (Kept.refl wy (fun x => ¬ R5 x ∧ w.heap.size ≤ x)).drew) (fun hHeld => ?_)
                refine tkC 0 (some 135) (Op.move (Operand.tmp 8)) 24 (v := ?_) rfl (by decide +kernel) (by kernel_rfl) ?_ ‹_› ?_
                rotate_left
                ·(intro w hSw; (try dsimp only at hSw); go_simp) <;> with_reducible rfl
                (try simp only [Act.put, List.setIfInBounds_toArray, List.set_cons_zero, List.set_cons_succ])
                refine tkC 2 (some 137) (Op.move (Operand.tmp 20)) 29 (v := ?_) rfl (by decide +kernel) (by kernel_rfl) ?_ ‹_› ?_
                rotate_left
                ·(intro w hSw; (try dsimp only at hSw); go_simp) <;> with_reducible rfl
                (try simp only [Act.put, List.setIfInBounds_toArray, List.set_cons_zero, List.set_cons_succ])
                refine tkC 3 (some 138) (Op.move (Operand.tmp 22)) 3 (v := ?_) rfl (by decide +kernel) (by kernel_rfl) ?_ ‹_› ?_
                rotate_left
                ·(intro w hSw; (try dsimp only at hSw); go_simp) <;> with_reducible rfl
                (try simp only [Act.put, List.setIfInBounds_toArray, List.set_cons_zero, List.set_cons_succ])
                refine tkC 4 (some 139) (Op.indexAddr 29 (Operand.tmp 137) (Operand.tmp 138)) 0 (v := ?_) rfl (by decide +kernel) (by kernel_rfl) ?_ ‹_› ?_
                rotate_left
                ·(intro w hSw; (try dsimp only at hSw); go_simp) <;> with_reducible rfl
                (try simp only [Act.put, List.setIfInBounds_toArray, List.set_cons_zero, List.set_cons_succ])
                refine tkC 5 (some 140) (Op.fieldAddr 34 (Operand.tmp 139) 0) 0 (v := ?_) rfl (by decide +kernel) (by kernel_rfl) ?_ ‹_› ?_
                rotate_left
                ·(intro w hSw; (try dsimp only at hSw); go_simp) <;> with_reducible rfl
                (try simp only [Act.put, List.setIfInBounds_toArray, List.set_cons_zero, List.set_cons_succ])
                refine tkC 6 (some 141) (Op.load 3 (Operand.tmp 140)) 3 (v := ?_) rfl (by decide +kernel) (by kernel_rfl) ?_ ‹_› ?_
                rotate_left
                ·(intro w hSw; (try dsimp only at hSw); go_simp) <;> with_reducible rfl
                (try simp only [Act.put, List.setIfInBounds_toArray, List.set_cons_zero, List.set_cons_succ])
                refine rdA (rs := [1, 11]) (by decide +kernel) ?_ rfl
                refine rcA (some 136) (Op.call { callee := Callee.value (Operand.func 15), args := #[Operand.tmp 135], argTypes := #[24] }) 44 rfl (by kernel_rfl) (fun K hK => ?_) ?_
                ·go_simp
                 have BS := (show _ ∧ _ from ⟨HI.out.1.below (Below.refl _ _).drew, (Kept.refl wy (fun x => ¬ R5 x ∧ w.heap.size ≤ x)).drew⟩)
                 refine (t_space BS.1).mono ?_
                 rintro e w4 ⟨rfl, b4⟩
                 have F4 := Lib.hid (show St2 w w4 s a b c 2000 Y R5 1500 p 0 5 L1' q 1 6 L2 ∧ Kept wy w4 (fun x => ¬ R5 x ∧ w.heap.size ≤ x) from ⟨BS.1.below b4, BS.2.trans (Kept.of_below b4 (fun x => ¬ R5 x ∧ w.heap.size ≤ x)) (fun _ _ e => e)⟩)
                 clear b4 BS
                 go_wp2_with fail
                 refine hK.out _ _ ?_ (fun hHeld => ?_)
                 · exact HC.out _ F4.out.2
                 clear hK K
                 (try simp only [Act.put, List.setIfInBounds_toArray, List.set_cons_zero, List.set_cons_succ])
                 refine rdA (rs := [7, 11]) (by decide +kernel) ?_ rfl
                 refine rcA (some 142) (Op.call { callee := Callee.value (Operand.func 14), args := #[Operand.tmp 136, Operand.tmp 141], argTypes := #[44, 3] }) 42 rfl (by kernel_rfl) (fun K hK => ?_) ?_
                 ·go_simp
                  refine (RD.out _ R5 F4.out.1).mono ?_
                  rintro e w6 ⟨rfl, hh, hk6⟩
                  have F6 := Lib.hid (show St2 w w6 s a b c 2000 { Y with u := Y.u + 1 } R5 1500 p 0 5 L1' q 1 6 L2 ∧ Kept wy w6 (fun x => ¬ R5 x ∧ w.heap.size ≤ x) from ⟨hh, F4.out.2.trans hk6 (fun _ _ e => e)⟩)
                  clear hh hk6
                  go_wp2_with fail
                  refine hK.out _ _ ?_ (fun hHeld => ?_)
                  · exact HC.out _ F6.out.2
                  clear hK K
                  (try simp only [Act.put, List.setIfInBounds_toArray, List.set_cons_zero, List.set_cons_succ])
                  refine tkC 8 (some 134) (Op.move (Operand.tmp 142)) 42 (v := ?_) rfl (by decide +kernel) (by kernel_rfl) ?_ ‹_› ?_
                  rotate_left
                  ·(intro w hSw; (try dsimp only at hSw); go_simp) <;> with_reducible rfl
                  (try simp only [Act.put, List.setIfInBounds_toArray, List.set_cons_zero, List.set_cons_succ])
                  refine tkC 9 (some 143) (Op.extract (Operand.tmp 134) 0) 41 (v := ?_) rfl (by decide +kernel) (by kernel_rfl) ?_ ‹_› ?_
                  rotate_left
                  ·(intro w hSw; (try dsimp only at hSw); go_simp) <;> with_reducible rfl
                  (try simp only [Act.put, List.setIfInBounds_toArray, List.set_cons_zero, List.set_cons_succ])
                  refine tkC 10 (some 144) (Op.extract (Operand.tmp 134) 1) 30 (v := ?_) rfl (by decide +kernel) (by kernel_rfl) ?_ ‹_› ?_
                  rotate_left
                  ·(intro w hSw; (try dsimp only at hSw); go_simp) <;> with_reducible rfl
                  (try simp only [Act.put, List.setIfInBounds_toArray, List.set_cons_zero, List.set_cons_succ])
                  refine rdA (rs := [11]) (by decide +kernel) ?_ rfl
                  refine rcA (some 23) (Op.alloc 41) 0 rfl (by kernel_rfl) (fun K hK => ?_) ?_
                  ·go_simp
                   obtain ⟨v9, hv9⟩ : ∃ x, x = w6.alloc (.cells #[.int .i64 0, .int .i64 0, .int .u64 0, .int .u64 0] 41) := ⟨_, rfl⟩
                   obtain ⟨g8, hg8⟩ : ∃ g, g = w6.heap.size := ⟨_, rfl⟩
                   have F5 := Lib.hid (show St2 w v9 s a b c 2000 { Y with u := Y.u + 1 } (fun x => R5 x ∨ x = g8) 1500 p 0 5 L1' q 1 6 L2 ∧ Kept wy v9 (fun x => ¬ R5 x ∧ w.heap.size ≤ x) ∧ Box4 v9 g8 (.int .i64 0) (.int .i64 0) (.int .u64 0) (.int .u64 0) ∧ wy.heap.size ≤ g8 from by
                     have b := (Below.refl w6.heap.size w6).alloc (Nat.le_refl _) (.cells #[.int .i64 0, .int .i64 0, .int .u64 0, .int .u64 0] 41)
                     rw [hv9, hg8]
                     exact ⟨F6.out.1.own (Kept.of_below b (fun _ => False)) (fun x e => e.elim) (fun x e => e.imp id (fun e => by rw [e]; simp)), F6.out.2.trans (Kept.of_below b (fun x => ¬ R5 x ∧ w.heap.size ≤ x)) (fun _ _ e => e), Box4.new w6 41 (.int .i64 0) (.int .i64 0) (.int .u64 0) (.int .u64 0), F6.out.2.size⟩)
                   rw [← hv9, ← hg8]
                   clear hv9 hg8
                   have z0 := F5.out.2.2.1.c0
                   have z1 := F5.out.2.2.1.c1
                   have z2 := F5.out.2.2.1.c2
                   have z3 := F5.out.2.2.1.c3
                   have f0 := F5.out.2.2.1.fz 0
                   have f1 := F5.out.2.2.1.fz 1
                   have f2 := F5.out.2.2.1.fz 2
                   have f3 := F5.out.2.2.1.fz 3

                   refine hK.out _ _ ?_ (fun hHeld => ?_)
                   · exact HC.out _ F5.out.2.1
                   clear hK K
                   (try simp only [Act.put, List.setIfInBounds_toArray, List.set_cons_zero, List.set_cons_succ])
                   refine rdA (rs := [12]) (by decide +kernel) ?_ rfl
                   refine rcA none (Op.store 41 (Operand.tmp 23) (Operand.tmp 143)) 0 rfl (by kernel_rfl) (fun K hK => ?_) ?_
                   ·go_simp
                    have k7 : Kept v9 ((((v9.setCell ⟨g8, 0, none⟩ (.int .i64 rn)).setCell ⟨g8, 1, none⟩ (.int .i64 0)).setCell ⟨g8, 2, none⟩ (.int .u64 5)).setCell ⟨g8, 3, none⟩ (.int .u64 (nn : Int))) (fun x => x = g8) := ((((Kept.refl v9 (fun x => x = g8)).setCell (p := ⟨g8, 0, none⟩) (fun _ => rfl) (.int .i64 rn)).setCell (p := ⟨g8, 1, none⟩) (fun _ => rfl) (.int .i64 0)).setCell (p := ⟨g8, 2, none⟩) (fun _ => rfl) (.int .u64 5)).setCell (p := ⟨g8, 3, none⟩) (fun _ => rfl) (.int .u64 (nn : Int))
                    have F7 := Lib.hid (And.intro ((F5.out.1.own (R' := R5) k7 (fun x e => .inr e) (fun x e => .inl (.inl e)))) (And.intro (F5.out.2.2.1.set (.int .i64 rn) (.int .i64 0) (.int .u64 5) (.int .u64 (nn : Int))) (Kept.grow F5.out.2.1 k7 (fun x e => .inr (by rw [e]; exact F5.out.2.2.2)))))
                    generalize World.setCell _ ⟨g8, 3, none⟩ (.int .u64 (nn : Int)) = w7 at *
                    clear k7
                    clear z0 z1 z2 z3 f0 f1 f2 f3
                    refine hK.out _ _ ?_ (fun hHeld => ?_)
                    · exact HC.out _ F7.out.2.2
                    clear hK K
                    (try simp only [Act.put, List.setIfInBounds_toArray, List.set_cons_zero, List.set_cons_succ])
                    refine tkC 13 (some 24) (Op.assign (Operand.tmp 144)) 30 (v := ?_) rfl (by decide +kernel) (by kernel_rfl) ?_ ‹_› ?_
                    rotate_left
                    ·(intro w hSw; (try dsimp only at hSw); go_simp) <;> with_reducible rfl
                    (try simp only [Act.put, List.setIfInBounds_toArray, List.set_cons_zero, List.set_cons_succ])
                    refine wpAnyH_done (by kernel_rfl) ?_ _
                    refine NoPanic.normal ?_
                    go_wp2_with fail
                    go_meet
                    exact ⟨g8, rfl, rfl, Lib.hid ⟨F7.out.1, F7.out.2.1, F7.out.2.2⟩⟩
                   exact AllReadyH.nil
                  exact AllReadyH.nil
                 refine rcA (some 23) (Op.alloc 41) 0 rfl (by kernel_rfl) (fun K hK => ?_) ?_
                 ·go_simp
                  obtain ⟨v9, hv9⟩ : ∃ x, x = w4.alloc (.cells #[.int .i64 0, .int .i64 0, .int .u64 0, .int .u64 0] 41) := ⟨_, rfl⟩
                  obtain ⟨g8, hg8⟩ : ∃ g, g = w4.heap.size := ⟨_, rfl⟩
                  have F5 := Lib.hid (show St2 w v9 s a b c 2000 Y (fun x => R5 x ∨ x = g8) 1500 p 0 5 L1' q 1 6 L2 ∧ Kept wy v9 (fun x => ¬ R5 x ∧ w.heap.size ≤ x) ∧ Box4 v9 g8 (.int .i64 0) (.int .i64 0) (.int .u64 0) (.int .u64 0) ∧ wy.heap.size ≤ g8 from by
                    have b := (Below.refl w4.heap.size w4).alloc (Nat.le_refl _) (.cells #[.int .i64 0, .int .i64 0, .int .u64 0, .int .u64 0] 41)
                    rw [hv9, hg8]
                    exact ⟨F4.out.1.own (Kept.of_below b (fun _ => False)) (fun x e => e.elim) (fun x e => e.imp id (fun e => by rw [e]; simp)), F4.out.2.trans (Kept.of_below b (fun x => ¬ R5 x ∧ w.heap.size ≤ x)) (fun _ _ e => e), Box4.new w4 41 (.int .i64 0) (.int .i64 0) (.int .u64 0) (.int .u64 0), F4.out.2.size⟩)
                  rw [← hv9, ← hg8]
                  clear hv9 hg8
                  have z0 := F5.out.2.2.1.c0
                  have z1 := F5.out.2.2.1.c1
                  have z2 := F5.out.2.2.1.c2
                  have z3 := F5.out.2.2.1.c3
                  have f0 := F5.out.2.2.1.fz 0
                  have f1 := F5.out.2.2.1.fz 1
                  have f2 := F5.out.2.2.1.fz 2
                  have f3 := F5.out.2.2.1.fz 3

                  refine hK.out _ _ ?_ (fun hHeld => ?_)
                  · exact HC.out _ F5.out.2.1
                  clear hK K
                  (try simp only [Act.put, List.setIfInBounds_toArray, List.set_cons_zero, List.set_cons_succ])
                  refine rdA (rs := [7]) (by decide +kernel) ?_ rfl
                  refine rcA (some 142) (Op.call { callee := Callee.value (Operand.func 14), args := #[Operand.tmp 136, Operand.tmp 141], argTypes := #[44, 3] }) 42 rfl (by kernel_rfl) (fun K hK => ?_) ?_
                  ·go_simp
                   refine (RD.out _ (fun x => R5 x ∨ x = g8) F5.out.1).mono ?_
                   rintro e w6 ⟨rfl, hh, hk6⟩
                   have F6 := Lib.hid (show St2 w w6 s a b c 2000 { Y with u := Y.u + 1 } (fun x => R5 x ∨ x = g8) 1500 p 0 5 L1' q 1 6 L2 ∧ Kept wy w6 (fun x => ¬ R5 x ∧ w.heap.size ≤ x) ∧ Box4 w6 g8 (.int .i64 0) (.int .i64 0) (.int .u64 0) (.int .u64 0) ∧ wy.heap.size ≤ g8 from ⟨hh, F5.out.2.1.trans hk6 (fun _ _ e => ⟨fun r => e.1 (.inl r), e.2⟩), F5.out.2.2.1.kept hk6 (fun e => e.1 (.inr rfl)), F5.out.2.2.2⟩)
                   clear hh hk6
                   clear z0 z1 z2 z3 f0 f1 f2 f3
                   have z0 := F6.out.2.2.1.c0
                   have z1 := F6.out.2.2.1.c1
                   have z2 := F6.out.2.2.1.c2
                   have z3 := F6.out.2.2.1.c3
                   have f0 := F6.out.2.2.1.fz 0
                   have f1 := F6.out.2.2.1.fz 1
                   have f2 := F6.out.2.2.1.fz 2
                   have f3 := F6.out.2.2.1.fz 3
                   go_wp2_with fail
                   refine hK.out _ _ ?_ (fun hHeld => ?_)
                   · exact HC.out _ F6.out.2.1
                   clear hK K
                   (try simp only [Act.put, List.setIfInBounds_toArray, List.set_cons_zero, List.set_cons_succ])
                   refine tkC 8 (some 134) (Op.move (Operand.tmp 142)) 42 (v := ?_) rfl (by decide +kernel) (by kernel_rfl) ?_ ‹_› ?_
                   rotate_left
                   ·(intro w hSw; (try dsimp only at hSw); go_simp) <;> with_reducible rfl
                   (try simp only [Act.put, List.setIfInBounds_toArray, List.set_cons_zero, List.set_cons_succ])
                   refine tkC 9 (some 143) (Op.extract (Operand.tmp 134) 0) 41 (v := ?_) rfl (by decide +kernel) (by kernel_rfl) ?_ ‹_› ?_
                   rotate_left
                   ·(intro w hSw; (try dsimp only at hSw); go_simp) <;> with_reducible rfl
                   (try simp only [Act.put, List.setIfInBounds_toArray, List.set_cons_zero, List.set_cons_succ])
                   refine tkC 10 (some 144) (Op.extract (Operand.tmp 134) 1) 30 (v := ?_) rfl (by decide +kernel) (by kernel_rfl) ?_ ‹_› ?_
                   rotate_left
                   ·(intro w hSw; (try dsimp only at hSw); go_simp) <;> with_reducible rfl
                   (try simp only [Act.put, List.setIfInBounds_toArray, List.set_cons_zero, List.set_cons_succ])
                   refine rdA (rs := [12]) (by decide +kernel) ?_ rfl
                   refine rcA none (Op.store 41 (Operand.tmp 23) (Operand.tmp 143)) 0 rfl (by kernel_rfl) (fun K hK => ?_) ?_
                   ·go_simp
                    have k7 : Kept w6 ((((w6.setCell ⟨g8, 0, none⟩ (.int .i64 rn)).setCell ⟨g8, 1, none⟩ (.int .i64 0)).setCell ⟨g8, 2, none⟩ (.int .u64 5)).setCell ⟨g8, 3, none⟩ (.int .u64 (nn : Int))) (fun x => x = g8) := ((((Kept.refl w6 (fun x => x = g8)).setCell (p := ⟨g8, 0, none⟩) (fun _ => rfl) (.int .i64 rn)).setCell (p := ⟨g8, 1, none⟩) (fun _ => rfl) (.int .i64 0)).setCell (p := ⟨g8, 2, none⟩) (fun _ => rfl) (.int .u64 5)).setCell (p := ⟨g8, 3, none⟩) (fun _ => rfl) (.int .u64 (nn : Int))
                    have F7 := Lib.hid (And.intro ((F6.out.1.own (R' := R5) k7 (fun x e => .inr e) (fun x e => .inl (.inl e)))) (And.intro (F6.out.2.2.1.set (.int .i64 rn) (.int .i64 0) (.int .u64 5) (.int .u64 (nn : Int))) (Kept.grow F6.out.2.1 k7 (fun x e => .inr (by rw [e]; exact F6.out.2.2.2)))))
                    generalize World.setCell _ ⟨g8, 3, none⟩ (.int .u64 (nn : Int)) = w7 at *
                    clear k7
                    clear z0 z1 z2 z3 f0 f1 f2 f3
                    refine hK.out _ _ ?_ (fun hHeld => ?_)
                    · exact HC.out _ F7.out.2.2
                    clear hK K
                    (try simp only [Act.put, List.setIfInBounds_toArray, List.set_cons_zero, List.set_cons_succ])
                    refine tkC 13 (some 24) (Op.assign (Operand.tmp 144)) 30 (v := ?_) rfl (by decide +kernel) (by kernel_rfl) ?_ ‹_› ?_
                    rotate_left
                    ·(intro w hSw; (try dsimp only at hSw); go_simp) <;> with_reducible rfl
                    (try simp only [Act.put, List.setIfInBounds_toArray, List.set_cons_zero, List.set_cons_succ])
                    refine wpAnyH_done (by kernel_rfl) ?_ _
                    refine NoPanic.normal ?_
                    go_wp2_with fail
                    go_meet
                    exact ⟨g8, rfl, rfl, Lib.hid ⟨F7.out.1, F7.out.2.1, F7.out.2.2⟩⟩
                   exact AllReadyH.nil
                  exact AllReadyH.nil
                 exact AllReadyH.nil
                refine rcA (some 23) (Op.alloc 41) 0 rfl (by kernel_rfl) (fun K hK => ?_) ?_
                ·go_simp
                 obtain ⟨v9, hv9⟩ : ∃ x, x = (wy.alloc (.cells #[.int .i64 0, .int .i64 0, .int .u64 0, .int .u64 0] 41)).drew := ⟨_, rfl⟩
                 obtain ⟨g8, hg8⟩ : ∃ g, g = wy.heap.size := ⟨_, rfl⟩
                 have F5 := Lib.hid (show St2 w v9 s a b c 2000 Y (fun x => R5 x ∨ x = g8) 1500 p 0 5 L1' q 1 6 L2 ∧ Kept wy v9 (fun x => ¬ R5 x ∧ w.heap.size ≤ x) ∧ Box4 v9 g8 (.int .i64 0) (.int .i64 0) (.int .u64 0) (.int .u64 0) ∧ wy.heap.size ≤ g8 from by
                   have b := (Below.refl wy.heap.size wy).alloc (Nat.le_refl _) (.cells #[.int .i64 0, .int .i64 0, .int .u64 0, .int .u64 0] 41)
                   have x := Box4.new wy 41 (.int .i64 0) (.int .i64 0) (.int .u64 0) (.int .u64 0)
                   rw [hv9, hg8]
                   exact ⟨(HI.out.1.own (Kept.of_below b (fun _ => False)) (fun x e => e.elim) (fun x e => e.imp id (fun e => by rw [e]; simp))).below (Below.refl _ _).drew, (Kept.of_below b (fun x => ¬ R5 x ∧ w.heap.size ≤ x)).drew, x.below (Below.refl _ _).drew, Nat.le_refl _⟩)
                 rw [← hv9, ← hg8]
                 clear hv9 hg8
                 have z0 := F5.out.2.2.1.c0
                 have z1 := F5.out.2.2.1.c1
                 have z2 := F5.out.2.2.1.c2
                 have z3 := F5.out.2.2.1.c3
                 have f0 := F5.out.2.2.1.fz 0
                 have f1 := F5.out.2.2.1.fz 1
                 have f2 := F5.out.2.2.1.fz 2
                 have f3 := F5.out.2.2.1.fz 3

                 refine hK.out _ _ ?_ (fun hHeld => ?_)
                 · exact HC.out _ F5.out.2.1
                 clear hK K
                 (try simp only [Act.put, List.setIfInBounds_toArray, List.set_cons_zero, List.set_cons_succ])
                 refine rdA (rs := [1]) (by decide +kernel) ?_ rfl
                 refine rcA (some 136) (Op.call { callee := Callee.value (Operand.func 15), args := #[Operand.tmp 135], argTypes := #[24] }) 44 rfl (by kernel_rfl) (fun K hK => ?_) ?_
                 ·go_simp
                  have BS := F5.out
                  refine (t_space BS.1).mono ?_
                  rintro e w4 ⟨rfl, b4⟩
                  have F4 := Lib.hid (show St2 w w4 s a b c 2000 Y (fun x => R5 x ∨ x = g8) 1500 p 0 5 L1' q 1 6 L2 ∧ Kept wy w4 (fun x => ¬ R5 x ∧ w.heap.size ≤ x) ∧ Box4 w4 g8 (.int .i64 0) (.int .i64 0) (.int .u64 0) (.int .u64 0) ∧ wy.heap.size ≤ g8 from ⟨BS.1.below b4, BS.2.1.trans (Kept.of_below b4 (fun x => ¬ R5 x ∧ w.heap.size ≤ x)) (fun _ _ e => e), BS.2.2.1.below b4, BS.2.2.2⟩)
                  clear b4 BS
                  clear z0 z1 z2 z3 f0 f1 f2 f3
                  have z0 := F4.out.2.2.1.c0
                  have z1 := F4.out.2.2.1.c1
                  have z2 := F4.out.2.2.1.c2
                  have z3 := F4.out.2.2.1.c3
                  have f0 := F4.out.2.2.1.fz 0
                  have f1 := F4.out.2.2.1.fz 1
                  have f2 := F4.out.2.2.1.fz 2
                  have f3 := F4.out.2.2.1.fz 3
                  go_wp2_with fail
                  refine hK.out _ _ ?_ (fun hHeld => ?_)
                  · exact HC.out _ F4.out.2.1
                  clear hK K
                  (try simp only [Act.put, List.setIfInBounds_toArray, List.set_cons_zero, List.set_cons_succ])
                  refine rdA (rs := [7]) (by decide +kernel) ?_ rfl
                  refine rcA (some 142) (Op.call { callee := Callee.value (Operand.func 14), args := #[Operand.tmp 136, Operand.tmp 141], argTypes := #[44, 3] }) 42 rfl (by kernel_rfl) (fun K hK => ?_) ?_
                  ·go_simp
                   refine (RD.out _ (fun x => R5 x ∨ x = g8) F4.out.1).mono ?_
                   rintro e w6 ⟨rfl, hh, hk6⟩
                   have F6 := Lib.hid (show St2 w w6 s a b c 2000 { Y with u := Y.u + 1 } (fun x => R5 x ∨ x = g8) 1500 p 0 5 L1' q 1 6 L2 ∧ Kept wy w6 (fun x => ¬ R5 x ∧ w.heap.size ≤ x) ∧ Box4 w6 g8 (.int .i64 0) (.int .i64 0) (.int .u64 0) (.int .u64 0) ∧ wy.heap.size ≤ g8 from ⟨hh, F4.out.2.1.trans hk6 (fun _ _ e => ⟨fun r => e.1 (.inl r), e.2⟩), F4.out.2.2.1.kept hk6 (fun e => e.1 (.inr rfl)), F4.out.2.2.2⟩)
                   clear hh hk6
                   clear z0 z1 z2 z3 f0 f1 f2 f3
                   have z0 := F6.out.2.2.1.c0
                   have z1 := F6.out.2.2.1.c1
                   have z2 := F6.out.2.2.1.c2
                   have z3 := F6.out.2.2.1.c3
                   have f0 := F6.out.2.2.1.fz 0
                   have f1 := F6.out.2.2.1.fz 1
                   have f2 := F6.out.2.2.1.fz 2
                   have f3 := F6.out.2.2.1.fz 3
                   go_wp2_with fail
                   refine hK.out _ _ ?_ (fun hHeld => ?_)
                   · exact HC.out _ F6.out.2.1
                   clear hK K
                   (try simp only [Act.put, List.setIfInBounds_toArray, List.set_cons_zero, List.set_cons_succ])
                   refine tkC 8 (some 134) (Op.move (Operand.tmp 142)) 42 (v := ?_) rfl (by decide +kernel) (by kernel_rfl) ?_ ‹_› ?_
                   rotate_left
                   ·(intro w hSw; (try dsimp only at hSw); go_simp) <;> with_reducible rfl
                   (try simp only [Act.put, List.setIfInBounds_toArray, List.set_cons_zero, List.set_cons_succ])
                   refine tkC 9 (some 143) (Op.extract (Operand.tmp 134) 0) 41 (v := ?_) rfl (by decide +kernel) (by kernel_rfl) ?_ ‹_› ?_
                   rotate_left
                   ·(intro w hSw; (try dsimp only at hSw); go_simp) <;> with_reducible rfl
                   (try simp only [Act.put, List.setIfInBounds_toArray, List.set_cons_zero, List.set_cons_succ])
                   refine tkC 10 (some 144) (Op.extract (Operand.tmp 134) 1) 30 (v := ?_) rfl (by decide +kernel) (by kernel_rfl) ?_ ‹_› ?_
                   rotate_left
                   ·(intro w hSw; (try dsimp only at hSw); go_simp) <;> with_reducible rfl
                   (try simp only [Act.put, List.setIfInBounds_toArray, List.set_cons_zero, List.set_cons_succ])
                   refine rdA (rs := [12]) (by decide +kernel) ?_ rfl
                   refine rcA none (Op.store 41 (Operand.tmp 23) (Operand.tmp 143)) 0 rfl (by kernel_rfl) (fun K hK => ?_) ?_
                   ·go_simp
                    have k7 : Kept w6 ((((w6.setCell ⟨g8, 0, none⟩ (.int .i64 rn)).setCell ⟨g8, 1, none⟩ (.int .i64 0)).setCell ⟨g8, 2, none⟩ (.int .u64 5)).setCell ⟨g8, 3, none⟩ (.int .u64 (nn : Int))) (fun x => x = g8) := ((((Kept.refl w6 (fun x => x = g8)).setCell (p := ⟨g8, 0, none⟩) (fun _ => rfl) (.int .i64 rn)).setCell (p := ⟨g8, 1, none⟩) (fun _ => rfl) (.int .i64 0)).setCell (p := ⟨g8, 2, none⟩) (fun _ => rfl) (.int .u64 5)).setCell (p := ⟨g8, 3, none⟩) (fun _ => rfl) (.int .u64 (nn : Int))
                    have F7 := Lib.hid (And.intro ((F6.out.1.own (R' := R5) k7 (fun x e => .inr e) (fun x e => .inl (.inl e)))) (And.intro (F6.out.2.2.1.set (.int .i64 rn) (.int .i64 0) (.int .u64 5) (.int .u64 (nn : Int))) (Kept.grow F6.out.2.1 k7 (fun x e => .inr (by rw [e]; exact F6.out.2.2.2)))))
                    generalize World.setCell _ ⟨g8, 3, none⟩ (.int .u64 (nn : Int)) = w7 at *
                    clear k7
                    clear z0 z1 z2 z3 f0 f1 f2 f3
                    refine hK.out _ _ ?_ (fun hHeld => ?_)
                    · exact HC.out _ F7.out.2.2
                    clear hK K
                    (try simp only [Act.put, List.setIfInBounds_toArray, List.set_cons_zero, List.set_cons_succ])
                    refine tkC 13 (some 24) (Op.assign (Operand.tmp 144)) 30 (v := ?_) rfl (by decide +kernel) (by kernel_rfl) ?_ ‹_› ?_
                    rotate_left
                    ·(intro w hSw; (try dsimp only at hSw); go_simp) <;> with_reducible rfl
                    (try simp only [Act.put, List.setIfInBounds_toArray, List.set_cons_zero, List.set_cons_succ])
                    refine wpAnyH_done (by kernel_rfl) ?_ _
                    refine NoPanic.normal ?_
                    go_wp2_with fail
                    go_meet
                    exact ⟨g8, rfl, rfl, Lib.hid ⟨F7.out.1, F7.out.2.1, F7.out.2.2⟩⟩
                   exact AllReadyH.nil
                  exact AllReadyH.nil
                 exact AllReadyH.nil
                exact AllReadyH.nil
              case rest =>
                obtain ⟨g8, rfl, rfl, HX⟩ := hcut
                generalize wc = wx at *
                have g1 := (HC.out _ HX.out.2.2).2
                have c0 := HX.out.2.1.c0
                have c1 := HX.out.2.1.c1
                have c2 := HX.out.2.1.c2
                have HN := Lib.hid (show St2 w wx s a b c 2000 { Y with u := Y.u + 1 } R5 1500 p 0 5 L1' q 1 6 L2 ∧ Runs wx (some ⟨bl, o, none⟩) L1' ∧ Runs wx A' L1' ∧ Y.u + 1 ≤ 2020 + (k + 1) from ⟨HX.out.1, HI.out.2.1.keptR HX.out.2.2 HR.out.1, HI.out.2.2.1.keptR HX.out.2.2 HR.out.2, by have := HI.out.2.2.2; omega⟩)
                clear HX HI RD HC
                go_upto_region 33 with fail
                go_quiet (fail)
                clear g1 c0 c1 c2
                go_wp2_with fail
                go_roundw
                case rel => exact ⟨k + 1, _, hlt, by go_num, Lib.hid ⟨HN.out.1.below (below_drewN' (Below.refl _ _) _), HN.out.2.1.below (below_drewN' (Below.refl _ _) _), HN.out.2.2.1.below (below_drewN' (Below.refl _ _) _), HN.out.2.2.2⟩⟩
                case measure => simp [intOf]; omega
            · go_wp2_with fail
              refine (t_top HI.out.1 (by have := HL20.out; omega)).mono ?_
              rintro e w7 ⟨rfl, b7⟩
              have HB := Lib.hid (And.intro (HI.out.1.below b7).bel (HI.out.2.2.1.below b7))
              have ht5 : t5 = t := HT.out.2.2.1
              have HT2 := Lib.hid HT.out.2.1
              clear b7 HI hlt hk
              cases L1' with
              | nil =>
                have ht0 : t = 0 := HT2.out
                simp only [topP, topN, topB]
                have b8 := Lib.hid ((Below.refl w7.heap.size w7).alloc (Nat.le_refl _) (.cells #[.int .i64 0, .int .i64 0] 34))
                subst ht0
                clear ht5
                go_upto_region 36 with fail
                go_quiet (fail)
                go_wp2_with fail
                go_ret
                exact ⟨rfl, (HB.out.1.trans (b8.out.mono HB.out.1.size)).trans (below_drewN' (Below.refl _ _) _)⟩
              | cons r L1' =>
                obtain ⟨rp, rn⟩ := r
                simp only [topP, topN, topB]
                obtain ⟨w8, hw8⟩ : ∃ z, z = w7.alloc (.cells #[.int .i64 rp, .int .i64 rn] 34) := ⟨_, rfl⟩
                have b8 : Below w7.heap.size w7 w8 := by rw [hw8]; exact (Below.refl _ _).alloc (Nat.le_refl _) _
                have c0 : w8.cell? ⟨w7.heap.size, 0, none⟩ = some (.int .i64 rp) := by rw [hw8, World.cell?_alloc_mark]; rfl
                have c1 : w8.cell? ⟨w7.heap.size, 1, none⟩ = some (.int .i64 rn) := by rw [hw8, World.cell?_alloc_mark]; rfl
                obtain ⟨bl, o, hA, g0, g1⟩ := runs_at (HB.out.2.below b8) (j := 0) (by simp)
                simp only [List.getElem_cons_zero, Nat.zero_mul, Nat.add_zero] at g0 g1
                subst hA
                have ht1 : 0 < t := by rw [HT2.out]; simp
                have hti : (0 : Int) < (t : Int) := by omega
                have HB2 := Lib.hid (HB.out.1.trans (b8.mono HB.out.1.size))
                clear b8 ht5
                go_upto_region 36 with fail
                rw [← hw8]
                generalize w7.heap.size = y at *
                clear hw8
                go_quiet (fail)
                go_wp2_with fail
                go_ret
                exact ⟨rfl, HB2.out.trans (below_drewN' (Below.refl _ _) _)⟩

/-! The row's step. -/
set_option maxRecDepth 100000 in
theorem lifted (os : Os) (started : os.Started) (H : Type) (enc : TypeId × Value → H) :
    ReturnsInHanded {} Try.checked os 3 .any (Rows.pileWalkSpec.pre6 enc Try.prog Try.f3 Rows.pileWalkRow.domain false) (Rows.pileWalkSpec.post enc Try.prog Try.f3 false true false false) := by
  refine returnsInHanded_of_change (C := Try.checked) own started (by kernel_rfl) Try.func3
    (ChangeSpec.witness6 (enc := enc) (C := Try.checked) false ⟨#[], #[.slice none 0 0, .int .u8 0, .int .u8 0], []⟩ 8 (by kernel_rfl) (by kernel_rfl) (by kernel_rfl) (by kernel_rfl)) ?_
  intro W base args ds gs before hval0 hW hcnd _
  have hval : ∀ (j : Nat) t v, Try.f3.params[j]? = some t → args[j]? = some v → Value.okWide Try.prog W .any base t v := hval0
  have hW' := hW
  obtain ⟨p, q, hA0, hV, rfl, hfz, hnd⟩ := hW
  have hA : DataW.TrodAll enc Try.prog W 0 (fun _ => true) true Try.f3.params.toList args.toList ds p := hA0
  rw [Try.params3] at hA hval
  obtain ⟨v0, vs0, d0, ds0, p0, q0, hargs, rfl, rfl, h0, r0⟩ := trodAll_cons hA
  obtain ⟨v1, vs1, d1, ds1, p1, q1, rfl, rfl, rfl, h1, r1⟩ := trodAll_cons r0
  obtain ⟨v2, vs2, d2, ds2, p2, q2, rfl, rfl, rfl, h2, r2⟩ := trodAll_cons r1
  obtain ⟨rfl, rfl, rfl⟩ := trodAll_nil r2
  obtain rfl : args = #[v0, v1, v2] := by cases args; simp_all
  obtain ⟨rfl, rfl⟩ := trodVars_none hV
  obtain ⟨a0, len0, cap0, rfl⟩ := okWide_slice Try.underlying22 (hval 0 22 v0 rfl rfl)
  have k0 := h0
  have lt0 : ∀ x ∈ p0, x.block < W.heap.size := by obtain ⟨m, hm⟩ := k0; exact DataW.trod_lt m _ _ _ hm
  obtain ⟨z0, w0⟩ : ∃ zs, IsRow .u8 W a0 len0 cap0 zs := by
    obtain ⟨fuel, hf⟩ := h0
    rcases open_ints Try.underlying22 Try.underlying5 (by kernel_rfl) hf with ⟨hcs, _⟩ | ⟨x, l, c, zs, hcs, _, hl, hm, hz, _, hcell, hwz⟩
    · simp [Value.cells] at hcs
      obtain ⟨rfl, rfl, rfl⟩ := hcs
      exact ⟨[], .inl ⟨rfl, rfl, rfl, rfl⟩⟩
    · simp [Value.cells] at hcs
      obtain ⟨rfl, rfl, rfl⟩ := hcs
      exact ⟨zs, .inr ⟨_, rfl, hl, hm, by simpa using hz, hcell, hwz⟩⟩
  obtain ⟨a1, rfl, rfl, rfl, w1⟩ := open_int Try.underlying5 (hval 1 5 v1 rfl rfl) h1
  obtain ⟨a2, rfl, rfl, rfl, w2⟩ := open_int Try.underlying5 (hval 2 5 v2 rfl rfl) h2
  clear hA0 hval0
  refine (walk a0 len0 cap0 z0 a1 a2 W w0 w1 w2).mono fun e W' ⟨he, bel⟩ => ?_
  subst he
  exact ⟨_, rfl, _, _, _, [], _, [], hW', trodAll_mk1 (shut_bool Try.underlying4 _), (trodAll_cons_mk (Below.trod laidOut (by kernel_rfl) (of_decide_eq_true (by kernel_rfl)) k0 bel lt0) (trodAll_cons_mk (shut_int Try.underlying5 w1) (trodAll_cons_mk (shut_int Try.underlying5 w2) trodAll_mk0))), rfl, bel.frame _, fun h => by cases h⟩

theorem over : Rows.pileWalkRow.holds Try.pinned (OpenSpec.ofChange Rows.pileWalkSpec) :=
  OpenClaim.holds_of_wide 3 Try.f3 rfl rfl rfl rfl rfl rfl rfl ⟨rfl, rfl, rfl, rfl, rfl⟩ rfl rfl rfl rfl rfl (by kernel_rfl) Try.func3 (by kernel_rfl)
    (of_decide_eq_true (by kernel_rfl)) (by unfold Func.isWrapper; first | (rw [if_pos (by decide +kernel)]; kernel_rfl) | (rw [if_neg (by decide +kernel)]; exact ⟨rfl, rfl⟩))
    (fun os started H enc _ => lifted os started H enc)

/-- The statement. -/
theorem proved : Rows.PileWalkSaid := over
#print axioms proved
end Go.Proofs.Ytmagdhcpbofkbaa.pileWalk
