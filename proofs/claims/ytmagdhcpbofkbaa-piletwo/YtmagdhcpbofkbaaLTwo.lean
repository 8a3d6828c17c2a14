/-
  PileTwo: two piles of one store never have a page in common; one that is cut to none leaves the other one as it is; for every input the law returns true, and the arguments read behind the call as they read before. No condition.
-/
import Derived.Test.YtmagdhcpbofkbaaRows
import Derived.WalkKit
import Derived.ProofKit
import Derived.OpenShut
import Derived.ShutString
import Derived.ChangeOld
import Derived.Below
import Derived.Test.YtmagdhcpbofkbaaK15
namespace Go.Proofs.Ytmagdhcpbofkbaa.pileTwo
open Go.ChangeShapes Go.WideShapes Go.ChangeAt Go.RowKit
set_option linter.unusedVariables false

theorem own : ownKnob Try.prog.godebug = none := by kernel_rfl

/-! The walk. -/
set_option maxRecDepth 20000 in
set_option maxHeartbeats 16000000 in
theorem walk (a0 : Option Addr) (len0 cap0 : Nat) (z0 : List Int) (a1 : Option Addr) (len1 cap1 : Nat) (w : World) (w0 : IsRow .u8 w a0 len0 cap0 z0) (w1 : IsBools w a1 len1) :
    Calls Try.prog 5 #[.slice a0 len0 cap0, .slice a1 len1 cap1] w fun e w' => e = .returned (.bool true) ∧ Below w.heap.size w w' := by
  obtain ⟨ks, hks, hkb, hkc⟩ := bytes14 w0
  obtain ⟨hl63, bs, hbs, hbc⟩ := w1
  have HA := Lib.hid (And.intro hks (And.intro hkb hkc))
  have HW := Lib.hid (And.intro hbs hbc)
  clear w0 hks hkb hkc hbs hbc
  go_enter Try.func5, Try.ntmps5
  go_wp2_with fail
  refine (awake14_any _).mono ?_
  rintro e w1 ⟨rfl, b1⟩
  have B1 := Lib.hid b1
  clear b1
  by_cases h20 : 20 < len0
  · have d20 : decide (20 < (len0 : Int)) = true := by simp; omega
    go_wp2_with fail
    go_ret
    exact ⟨rfl, B1.out⟩
  have d20 : decide (20 < (len0 : Int)) = false := by simp; omega
  by_cases h00 : len1 = 0
  · subst h00
    go_wp2_with fail
    go_ret
    exact ⟨rfl, B1.out⟩
  have e00 : ((len1 : Int) == 0) = false := by simp; omega
  have HL := Lib.hid (show 0 < len1 ∧ len0 ≤ 20 by omega)
  go_wp2_with fail
  clear d20 e00
  refine (cnew_any B1.out 3000 3000 (by decide)).mono ?_
  rintro e w2 ⟨s, a, b, c, Q0, rfl, h2, _, _, _⟩
  have H2 := Lib.hid h2
  clear h2
  go_wp2_with fail
  refine (pnew_any w2 (some ⟨s, 0, none⟩) 0 1).mono ?_
  rintro e w3 ⟨rfl, x3, b3⟩
  have H3 := Lib.hid (And.intro x3 b3)
  clear x3 b3
  go_wp2_with fail
  refine (pnew_any w3 (some ⟨s, 0, none⟩) 1 2).mono ?_
  rintro e w4 ⟨rfl, x4, b4⟩
  obtain ⟨w5, hw5⟩ : ∃ z, z = w4.alloc (.cells #[.pointer (some ⟨w2.heap.size, 0, none⟩), .pointer (some ⟨w3.heap.size, 0, none⟩)] 26) := ⟨_, rfl⟩
  have H5 := Lib.hid (show Tw w w5 s a b c 3000 w4.heap.size w2.heap.size w3.heap.size (St.new 3000) [] [] (30 * 0) 0 0 from by rw [hw5]; exact Tw.begin H2.out H3.out.2 H3.out.1 b4 x4 _)
  clear x4 b4 H2 H3
  go_upto_region 8 with fail
  rw [← hw5]
  generalize w2.heap.size = p1 at *
  generalize w3.heap.size = p2 at *
  generalize w4.heap.size = y at *
  clear hw5
  go_wp2_with fail
  go_loopw [8, 9, 10, 11, 12] (fun i _ _ _ _ wr => ∃ (j u v : Nat) (Z : St) (L1 L2 : List M.R), j ≤ len0 ∧ i = .int .i64 (j : Int) ∧ Hid (Tw w wr s a b c 3000 y p1 p2 Z L1 L2 (30 * j) u v ∧ u + v ≤ j)) (fun i _ _ _ _ _ => len0 - (intOf i).toNat)
  case atStart => exact ⟨0, 0, 0, _, [], [], by omega, rfl, Lib.hid ⟨H5.out, by omega⟩⟩
  case round =>
    clear H5
    obtain ⟨j, u, v, Z, L1, L2, hj, rfl, HI⟩ := hrel
    by_cases hlt : j < len0
    · obtain ⟨m, hm⟩ : ∃ m, m = j % len1 := ⟨_, rfl⟩
      have hml : m < len1 := by rw [hm]; exact Nat.mod_lt _ HL.out.1
      have hmI : (j : Int).tmod (len1 : Int) = (m : Int) := by rw [hm]; rfl
      have hjk : j < ks.length := by have := HA.out.1; omega
      have hmp : m < bs.length := by have := HW.out.1; omega
      obtain ⟨ad0, rfl, hc0⟩ := HA.out.2.2 (by omega)
      obtain ⟨bw, ow, rfl, hc1⟩ := HW.out.2 (by omega)
      have f0 := hc0 j hjk
      have f1 := hc1 m hmp
      have hk8 := HA.out.2.1 _ (List.getElem_mem hjk)
      generalize ks[j] = kk at *
      generalize bs[m] = bb at *
      have HC := Lib.hid (show ∀ W, Below w.heap.size w W → W.cell? (ad0.add j) = some (.int .u8 (kk : Int)) from fun W hW => (hW.cell (lt_of_cell f0)).trans f0)
      have e1 : wr.cell? ⟨bw, ow + m, none⟩ = some (.bool bb) := (HI.out.1.st.bel.cell (lt_of_cell f1)).trans f1
      have e0 : ((len1 : Int) == 0) = false := by have := HL.out; simp; omega
      have hj20 : j < 20 := by have := HL.out; omega
      clear f0 f1 hc0 hc1 hm
      go_upto_if 51 with fail
      go_cut [9] (fun v9 wx => ∃ q : Nat, (q = 0 ∨ q = 1) ∧ v9 = .int .i64 (q : Int) ∧ wx = wr)
      case first =>
        cases bb with
        | false =>
          go_wp2_with fail
          go_meet
          exact ⟨0, .inl rfl, rfl, by trivial⟩
        | true =>
          go_wp2_with fail
          go_meet
          exact ⟨1, .inr rfl, rfl, by trivial⟩
      case rest =>
        obtain ⟨q, hq, rfl, hw⟩ := hcut
        have hw := hw.symm
        subst hw
        obtain ⟨pa, ka, oa, La, pb, kb, ob, Lb, hy, hs, hlm, hka, hoa, hbk⟩ := HI.out.1.sel q hq
        have HY := Lib.hid (And.intro hy (And.intro hka hoa))
        have HS := Lib.hid (And.intro hs hlm)
        have BK := Lib.hid hbk
        have HU := Lib.hid HI.out.2
        have hq2 : q < 2 := by omega
        have hqI : (q : Int) < 2 := by omega
        have e2 := HC.out wr hs.bel
        clear hs hlm hka hoa hbk e1 e0 HI
        by_cases h4 : kk % 5 = 4
        · have t5 : ((kk : Int) % 5 == 4) = true := by simp; omega
          go_wp2_with fail
          cases La with
          | nil =>
            refine (t_pop_none HS.out.1).mono ?_
            rintro e w6 ⟨rfl, b6⟩
            obtain ⟨L1', L2', ht⟩ := BK.out _ _ _ _ _ _ _ (HS.out.1.below b6) HS.out.2 (Kept.of_below b6 _)
            have HR := Lib.hid ht
            clear ht b6
            go_wp2_with fail
            go_roundw
            case rel => exact ⟨j + 1, u, v, _, L1', L2', hlt, by go_num, Lib.hid ⟨HR.out.more (by omega), by have := HU.out; omega⟩⟩
            case measure => simp [intOf]; omega
          | cons r La =>
            refine (t_pop HS.out.1 (by omega) (by have := HS.out.2.tk; have := HU.out; omega) (by have := HS.out.2.ll; have := HU.out; simp only [List.length_cons] at *; omega)).mono ?_
            rintro e w6 ⟨rfl, h6, k6⟩
            obtain ⟨L1', L2', ht⟩ := BK.out _ _ _ _ _ _ _ h6 (HS.out.2.pop HS.out.1.du) k6
            have HR := Lib.hid ht
            clear ht h6 k6
            go_wp2_with fail
            go_roundw
            case rel => exact ⟨j + 1, u, v + 1, _, L1', L2', hlt, by go_num, Lib.hid ⟨HR.out.more (by omega), by have := HU.out; omega⟩⟩
            case measure => simp [intOf]; omega
        · have t5 : ((kk : Int) % 5 == 4) = false := by simp; omega
          obtain ⟨pg, hpg⟩ : ∃ z : Int, z = (kk : Int) % 70 + 1 := ⟨_, rfl⟩
          have HPG := Lib.hid (show 1 ≤ pg ∧ pg ≤ 70 by omega)
          have HPW := Lib.hid (show IntKind.i64.wrap (IntKind.i64.wrap ((kk : Int).tmod 70) + 1) = pg from by rw [Int.tmod_eq_emod_of_nonneg (by omega), IntWalk.i64_in ((kk : Int) % 70) (by omega), IntWalk.i64_in ((kk : Int) % 70 + 1) (by omega)]; exact hpg.symm)
          clear hpg
          have LP := Lib.hid (HS.out.2.push HS.out.1.du (by omega) HY.out.2.1 HY.out.2.2 HPG.out.1 HPG.out.2 (by have := HU.out; omega))
          have HP := Lib.hid (t_push (HS.out.1.below (Below.refl _ _).drew) (by omega) (by have := HS.out.2.tk; have := HU.out; omega) HY.out.2.2 (by have := HS.out.2.ll; have := HU.out; omega) pg)
          go_upto_region 16 with fail
          clear e2 hy t5 h4
          refine wp_region_noPanic ?_
          refine wp_region_held_drew (S := fun W => W.cell? ⟨y, q, none⟩ = some (.pointer (some ⟨pa, 0, none⟩)) ∧ W.cell? (ad0.add j) = some (.int .u8 (kk : Int))) (by kernel_rfl) (⟨HY.out.1, HC.out _ HS.out.1.bel.drew⟩) (fun hHeld => ?_)
          refine tkC 0 (some 64) (Op.move (Operand.tmp 7)) 53 (v := ?_) rfl (by decide +kernel) (by kernel_rfl) ?_ ‹_› ?_
          rotate_left
          ·(intro w hSw; (try dsimp only at hSw); go_simp) <;> with_reducible rfl
          (try simp only [Act.put, List.setIfInBounds_toArray, List.set_cons_zero, List.set_cons_succ])
          refine tkC 1 (some 65) (Op.move (Operand.tmp 9)) 3 (v := ?_) rfl (by decide +kernel) (by kernel_rfl) ?_ ‹_› ?_
          rotate_left
          ·(intro w hSw; (try dsimp only at hSw); go_simp) <;> with_reducible rfl
          (try simp only [Act.put, List.setIfInBounds_toArray, List.set_cons_zero, List.set_cons_succ])
          refine tkC 2 (some 66) (Op.indexAddr 53 (Operand.tmp 64) (Operand.tmp 65)) 0 (v := ?_) rfl (by decide +kernel) (by kernel_rfl) ?_ ‹_› ?_
          rotate_left
          ·(intro w hSw; (try dsimp only at hSw); go_simp) <;> with_reducible rfl
          (try simp only [Act.put, List.setIfInBounds_toArray, List.set_cons_zero, List.set_cons_succ])
          refine tkC 3 (some 67) (Op.load 26 (Operand.tmp 66)) 26 (v := ?_) rfl (by decide +kernel) (by kernel_rfl) ?_ ‹_› ?_
          rotate_left
          ·(intro w hSw; (try dsimp only at hSw); go_simp) <;> with_reducible rfl
          (try simp only [Act.put, List.setIfInBounds_toArray, List.set_cons_zero, List.set_cons_succ])
          refine tkC 4 (some 68) (Op.move (Operand.tmp 0)) 22 (v := ?_) rfl (by decide +kernel) (by kernel_rfl) ?_ ‹_› ?_
          rotate_left
          ·(intro w hSw; (try dsimp only at hSw); go_simp) <;> with_reducible rfl
          (try simp only [Act.put, List.setIfInBounds_toArray, List.set_cons_zero, List.set_cons_succ])
          refine tkC 5 (some 69) (Op.move (Operand.tmp 8)) 3 (v := ?_) rfl (by decide +kernel) (by kernel_rfl) ?_ ‹_› ?_
          rotate_left
          ·(intro w hSw; (try dsimp only at hSw); go_simp) <;> with_reducible rfl
          (try simp only [Act.put, List.setIfInBounds_toArray, List.set_cons_zero, List.set_cons_succ])
          refine tkC 6 (some 70) (Op.indexAddr 22 (Operand.tmp 68) (Operand.tmp 69)) 0 (v := ?_) rfl (by decide +kernel) (by kernel_rfl) ?_ ‹_› ?_
          rotate_left
          ·(intro w hSw; (try dsimp only at hSw); go_simp) <;> with_reducible rfl
          (try simp only [Act.put, List.setIfInBounds_toArray, List.set_cons_zero, List.set_cons_succ])
          refine tkC 7 (some 71) (Op.load 5 (Operand.tmp 70)) 5 (v := ?_) rfl (by decide +kernel) (by kernel_rfl) ?_ ‹_› ?_
          rotate_left
          ·(intro w hSw; (try dsimp only at hSw); go_simp) <;> with_reducible rfl
          (try simp only [Act.put, List.setIfInBounds_toArray, List.set_cons_zero, List.set_cons_succ])
          refine tkC 8 (some 72) (Op.binOp BinOp.rem 5 (Operand.tmp 71) (Operand.const (Value.int IntKind.u8 70)) 5) 5 (v := ?_) rfl (by decide +kernel) (by kernel_rfl) ?_ ‹_› ?_
          rotate_left
          ·(intro w hSw; (try dsimp only at hSw); go_simp) <;> with_reducible rfl
          (try simp only [Act.put, List.setIfInBounds_toArray, List.set_cons_zero, List.set_cons_succ])
          refine tkC 9 (some 73) (Op.convert 5 3 (Operand.tmp 72)) 3 (v := ?_) rfl (by decide +kernel) (by kernel_rfl) ?_ ‹_› ?_
          rotate_left
          ·(intro w hSw; (try dsimp only at hSw); go_simp) <;> with_reducible rfl
          (try simp only [Act.put, List.setIfInBounds_toArray, List.set_cons_zero, List.set_cons_succ])
          refine tkC 10 (some 74) (Op.binOp BinOp.add 3 (Operand.tmp 73) (Operand.const (Value.int IntKind.i64 1)) 3) 3 (v := ?_) rfl (by decide +kernel) (by kernel_rfl) ?_ ‹_› ?_
          rotate_left
          ·(intro w hSw; (try dsimp only at hSw); go_simp) <;> with_reducible rfl
          (try simp only [Act.put, List.setIfInBounds_toArray, List.set_cons_zero, List.set_cons_succ])
          refine rdA (rs := [11]) (by decide +kernel) ?_ rfl
          refine rcA (some 75) (Op.call { callee := Callee.value (Operand.func 9), args := #[Operand.tmp 67, Operand.tmp 74], argTypes := #[26, 3] }) 31 rfl (by kernel_rfl) (fun K hK => ?_) ?_
          ·go_simp
           rw [HPW.out]
           refine HP.out.mono ?_
           rintro e w6 ⟨rfl, h6, k6⟩
           rw [LP.out.1]
           have H6 := Lib.hid (show _ ∧ _ ∧ _ from ⟨h6, k6, HC.out _ h6.bel⟩)
           clear h6 k6
           go_wp2_with fail
           refine hK.out _ _ ?_ (fun hHeld => ?_)
           · exact ⟨H6.out.2.1.cell_some HY.out.1 (fun e => e.1 rfl), H6.out.2.2⟩
           clear hK K
           (try simp only [Act.put, List.setIfInBounds_toArray, List.set_cons_zero, List.set_cons_succ])
           refine tkC 12 (some 63) (Op.move (Operand.tmp 75)) 31 (v := ?_) rfl (by decide +kernel) (by kernel_rfl) ?_ ‹_› ?_
           rotate_left
           ·(intro w hSw; (try dsimp only at hSw); go_simp) <;> with_reducible rfl
           (try simp only [Act.put, List.setIfInBounds_toArray, List.set_cons_zero, List.set_cons_succ])
           refine tkC 13 (some 76) (Op.extract (Operand.tmp 63) 0) 3 (v := ?_) rfl (by decide +kernel) (by kernel_rfl) ?_ ‹_› ?_
           rotate_left
           ·(intro w hSw; (try dsimp only at hSw); go_simp) <;> with_reducible rfl
           (try simp only [Act.put, List.setIfInBounds_toArray, List.set_cons_zero, List.set_cons_succ])
           refine tkC 14 (some 77) (Op.extract (Operand.tmp 63) 1) 3 (v := ?_) rfl (by decide +kernel) (by kernel_rfl) ?_ ‹_› ?_
           rotate_left
           ·(intro w hSw; (try dsimp only at hSw); go_simp) <;> with_reducible rfl
           (try simp only [Act.put, List.setIfInBounds_toArray, List.set_cons_zero, List.set_cons_succ])
           refine tkC 15 (some 78) (Op.extract (Operand.tmp 63) 2) 30 (v := ?_) rfl (by decide +kernel) (by kernel_rfl) ?_ ‹_› ?_
           rotate_left
           ·(intro w hSw; (try dsimp only at hSw); go_simp) <;> with_reducible rfl
           (try simp only [Act.put, List.setIfInBounds_toArray, List.set_cons_zero, List.set_cons_succ])
           refine tkC 16 (some 10) (Op.assign (Operand.tmp 76)) 3 (v := ?_) rfl (by decide +kernel) (by kernel_rfl) ?_ ‹_› ?_
           rotate_left
           ·(intro w hSw; (try dsimp only at hSw); go_simp) <;> with_reducible rfl
           (try simp only [Act.put, List.setIfInBounds_toArray, List.set_cons_zero, List.set_cons_succ])
           refine tkC 17 (some 11) (Op.assign (Operand.tmp 77)) 3 (v := ?_) rfl (by decide +kernel) (by kernel_rfl) ?_ ‹_› ?_
           rotate_left
           ·(intro w hSw; (try dsimp only at hSw); go_simp) <;> with_reducible rfl
           (try simp only [Act.put, List.setIfInBounds_toArray, List.set_cons_zero, List.set_cons_succ])
           refine tkC 18 (some 12) (Op.assign (Operand.tmp 78)) 30 (v := ?_) rfl (by decide +kernel) (by kernel_rfl) ?_ ‹_› ?_
           rotate_left
           ·(intro w hSw; (try dsimp only at hSw); go_simp) <;> with_reducible rfl
           (try simp only [Act.put, List.setIfInBounds_toArray, List.set_cons_zero, List.set_cons_succ])
           refine wpAnyH_done (by kernel_rfl) ?_ _
           refine NoPanic.normal ?_
           go_wp2_with fail
           have h6 := H6.out.1
           rw [LP.out.2.1] at h6
           obtain ⟨L1', L2', ht⟩ := BK.out _ _ _ _ _ _ _ h6 LP.out.2.2 (Kept.drewK H6.out.2.1)
           have HR := Lib.hid ht
           clear ht h6
           go_roundw
           case rel => exact ⟨j + 1, u + 1, v, _, L1', L2', hlt, by go_num, Lib.hid ⟨HR.out, by have := HU.out; omega⟩⟩
           case measure => simp [intOf]; omega
          exact AllReadyH.nil
    · have e : j = len0 := by omega
      subst e
      have HB := Lib.hid (show L1.length ≤ 20 ∧ L2.length ≤ 20 ∧ Z.u ≤ 80 ∧ j ≤ 20 from by have := HI.out.1.lim.ll; have := HI.out.1.lim.tk; have := HI.out.2; have := HL.out; omega)
      have n1 := Lib.hid HI.out.1.n1
      have n2 := Lib.hid HI.out.1.n2
      have c0 := HI.out.1.y0
      have c1 := HI.out.1.y1
      clear hlt hj
      go_wp2_with fail
      refine (t_walk HI.out.1.st (by have := HB.out; omega) (by have := HB.out; omega) (by have := HB.out; omega)).mono ?_
      rintro e w6 ⟨t1, A1, cc1, rfl, ht1, h6, v6, k6⟩
      have H6 := Lib.hid (show _ ∧ _ ∧ w6.cell? ⟨y, 0, none⟩ = some (.pointer (some ⟨p1, 0, none⟩)) ∧ w6.cell? ⟨y, 1, none⟩ = some (.pointer (some ⟨p2, 0, none⟩)) from ⟨h6, v6, k6.cell_some c0 (fun e => e.1 rfl), k6.cell_some c1 (fun e => e.1 rfl)⟩)
      have HT1 := Lib.hid (show t1 = L1.length ∧ t1 ≤ 20 from ⟨ht1, by rw [ht1]; exact HB.out.1⟩)
      clear h6 v6 k6 c0 c1 ht1
      have c1 := H6.out.2.2.2
      go_wp2_with fail
      refine (t_walk (H6.out.1.swap n2.out) (by have := HB.out; omega) (by have := HB.out; have := HT1.out; simp only; omega) (by have := HB.out; omega)).mono ?_
      rintro e w7 ⟨t2, A2, cc2, rfl, ht2, h7, v7, k7⟩
      have HT2 := Lib.hid (show t2 = L2.length ∧ t2 ≤ 20 from ⟨ht2, by rw [ht2]; exact HB.out.2.1⟩)
      obtain ⟨Z7, hZ7⟩ : ∃ z : St, z = { ({ Z with u := Z.u + t1 } : St) with u := ({ Z with u := Z.u + t1 } : St).u + t2 } := ⟨_, rfl⟩
      rw [← hZ7] at h7
      have H7 := Lib.hid (show St2 w w7 s a b c 3000 Z7 (fun x => (x = y ∨ rowD A1 x) ∨ rowD A2 x) (30 * j) p1 0 1 L1 p2 1 2 L2 ∧ View w7 wr.heap.size A1 cc1 L1 ∧ View w7 w6.heap.size A2 cc2 L2 ∧ w7.cell? ⟨y, 0, none⟩ = some (.pointer (some ⟨p1, 0, none⟩)) ∧ w7.cell? ⟨y, 1, none⟩ = some (.pointer (some ⟨p2, 0, none⟩)) ∧ Z7.u ≤ 120 from
        ⟨h7.swap n1.out, H6.out.2.1.keptR k7 (fun x e => .inr e), v7, k7.cell_some H6.out.2.2.1 (fun e => e.1 (.inl rfl)), k7.cell_some H6.out.2.2.2 (fun e => e.1 (.inl rfl)), by have := HB.out; have := HT1.out; have := HT2.out; rw [hZ7]; simp only; omega⟩)
      have HDU := Lib.hid H7.out.1.du
      clear h7 v7 k7 c1 ht2 hZ7 H6 HI
      go_wp2_with fail
      go_loopw [17, 18] (fun i _ wx => ∃ i' : Nat, i' ≤ t1 ∧ i = .int .i64 (i' : Int) ∧ Below w7.heap.size w7 wx) (fun i _ _ => t1 - (intOf i).toNat)
      case atStart => exact ⟨0, by omega, rfl, Below.refl _ _⟩
      case round =>
        obtain ⟨i, hi, rfl, hbx⟩ := hrel
        have BX := Lib.hid hbx
        clear hbx
        by_cases hlt : i < t1
        · have hi20 : i < 20 := by have := HT1.out; omega
          go_wp2_with fail
          go_loopw [18] (fun i2 wy => ∃ j' : Nat, j' ≤ t2 ∧ i2 = .int .i64 (j' : Int) ∧ Below w7.heap.size w7 wy) (fun i2 _ => t2 - (intOf i2).toNat)
          case atStart => exact ⟨0, by omega, rfl, BX.out⟩
          case round =>
            obtain ⟨jj, hjj, rfl, hby⟩ := hrel
            have BY := Lib.hid hby
            clear hby
            by_cases hlj : jj < t2
            · have hj20 : jj < 20 := by have := HT2.out; omega
              have hil : i < L1.length := by have := HT1.out; omega
              have hjl : jj < L2.length := by have := HT2.out; omega
              obtain ⟨b1, o1, rfl, g0, g1⟩ := runs_at (H7.out.2.1.runs.below BY.out) hil
              obtain ⟨b2, o2, rfl, g2, g3⟩ := runs_at (H7.out.2.2.1.runs.below BY.out) hjl
              have hap := HDU.out.apart (List.getElem_mem hil) (List.getElem_mem hjl)
              have in1 := HDU.out.inv.in (List.mem_append.2 (.inl (List.getElem_mem hil)))
              have in2 := HDU.out.inv.in (List.mem_append.2 (.inr (List.getElem_mem hjl)))
              obtain ⟨rp, hrp⟩ : ∃ z, z = L1[i].p := ⟨_, rfl⟩
              obtain ⟨rn, hrn⟩ : ∃ z, z = L1[i].n := ⟨_, rfl⟩
              obtain ⟨sp, hsp⟩ : ∃ z, z = L2[jj].p := ⟨_, rfl⟩
              obtain ⟨sn, hsn⟩ : ∃ z, z = L2[jj].n := ⟨_, rfl⟩
              rw [← hrp] at g0 hap in1
              rw [← hrn] at g1 hap in1
              rw [← hsp] at g2 hap in2
              rw [← hsn] at g3 hap in2
              have s1 : IntKind.i64.wrap (sp + sn) = sp + sn := IntWalk.i64_in _ (by omega)
              have s2 : IntKind.i64.wrap (rp + rn) = rp + rn := IntWalk.i64_in _ (by omega)
              have hiI : (i : Int) < (t1 : Int) := by omega
              have hjI : (jj : Int) < (t2 : Int) := by omega
              clear hrp hrn hsp hsn hil hjl in1 in2
              by_cases h1 : rp < sp + sn
              · have q1 : decide (rp < sp + sn) = true := decide_eq_true h1
                have q2 : decide (sp < rp + rn) = false := decide_eq_false (by omega)
                clear hap h1
                go_upto_region 27 with fail
                go_quiet (fail)
                go_wp2_with fail
                go_roundw
                case rel => exact ⟨jj + 1, hlj, by go_num, by repeat (first | exact BY.out | refine Below.drew ?_ | refine below_drewN' ?_ _)⟩
                case measure => simp [intOf]; omega
              · have q1 : decide (rp < sp + sn) = false := decide_eq_false h1
                clear hap h1
                go_upto_region 27 with fail
                go_quiet (fail)
                go_wp2_with fail
                go_roundw
                case rel => exact ⟨jj + 1, hlj, by go_num, by repeat (first | exact BY.out | refine Below.drew ?_ | refine below_drewN' ?_ _)⟩
                case measure => simp [intOf]; omega
            · go_wp2_with fail
              go_roundw
              case rel => exact ⟨i + 1, hlt, by go_num, BY.out⟩
              case measure => simp [intOf]; omega
        · clear hi
          have H8 := Lib.hid (H7.out.1.below BX.out)
          have c0 := (BX.out.cell (p := ⟨y, 0, none⟩) (lt_of_cell H7.out.2.2.2.1)).trans H7.out.2.2.2.1
          have c1 := (BX.out.cell (p := ⟨y, 1, none⟩) (lt_of_cell H7.out.2.2.2.2.1)).trans H7.out.2.2.2.2.1
          have V2 := Lib.hid (H7.out.2.2.1.below BX.out)
          have CC := Lib.hid (And.intro c0 c1)
          clear c1
          go_wp2_with fail
          refine (t_cut H8.out (by have := HB.out; omega) (by have := HB.out; have := H7.out.2.2.2.2.2; omega) (by have := HB.out; omega) 0 0 L1.length rfl (by omega)).mono ?_
          rintro e w9 ⟨rfl, h9, k9⟩
          rw [List.drop_length] at h9
          have hu9 := popsZ_u 3000 L1.length Z7 L1
          have H9 := Lib.hid (show _ ∧ _ ∧ w9.cell? ⟨y, 0, none⟩ = some (.pointer (some ⟨p1, 0, none⟩)) ∧ w9.cell? ⟨y, 1, none⟩ = some (.pointer (some ⟨p2, 0, none⟩)) ∧ _ from ⟨h9, V2.out.keptR k9 (fun x e => .inr e), k9.cell_some CC.out.1 (fun e => e.1 (.inl (.inl rfl))), k9.cell_some CC.out.2 (fun e => e.1 (.inl (.inl rfl))), hu9⟩)
          clear h9 k9 c0 hu9
          have c1 := H9.out.2.2.2.1
          go_wp2_with fail
          refine (t_walk (H9.out.1.swap n2.out) (by have := HB.out; omega) (by have := HB.out; have := H9.out.2.2.2.2; have := H7.out.2.2.2.2.2; omega) (by have := HB.out; omega)).mono ?_
          rintro e w10 ⟨t3, A3, cc3, rfl, ht3, h10, v10, k10⟩
          have H10 := Lib.hid (show _ ∧ _ ∧ _ ∧ w10.cell? ⟨y, 0, none⟩ = some (.pointer (some ⟨p1, 0, none⟩)) ∧ w10.cell? ⟨y, 1, none⟩ = some (.pointer (some ⟨p2, 0, none⟩)) ∧ t3 = L2.length from ⟨h10.swap n1.out, H9.out.2.1.keptR k10 (fun x e => .inr e), v10, k10.cell_some H9.out.2.2.1 (fun e => e.1 (.inl (.inl rfl))), k10.cell_some H9.out.2.2.2.1 (fun e => e.1 (.inl (.inl rfl))), ht3⟩)
          clear h10 v10 k10 c1 ht3
          go_wp2_with fail
          refine (same_eq14 w10 A2 A3 L2 t2 cc2 t3 cc3 HT2.out.1 H10.out.2.2.2.2.2 H10.out.2.1.runs H10.out.2.2.1.runs (by have := HT2.out; omega)).mono ?_
          rintro e w11 ⟨rfl, b11⟩
          have H11 := Lib.hid (show _ ∧ w11.cell? ⟨y, 1, none⟩ = some (.pointer (some ⟨p2, 0, none⟩)) from ⟨H10.out.1.below b11, (b11.cell (p := ⟨y, 1, none⟩) (lt_of_cell H10.out.2.2.2.2.1)).trans H10.out.2.2.2.2.1⟩)
          have c0 := (b11.cell (p := ⟨y, 0, none⟩) (lt_of_cell H10.out.2.2.2.1)).trans H10.out.2.2.2.1
          clear b11
          go_wp2_with fail
          refine (t_len H11.out.1).mono ?_
          rintro e w' ⟨rfl, rfl⟩
          simp only [List.length_nil]
          have c1 := H11.out.2
          go_wp2_with fail
          refine (t_len (H11.out.1.swap n2.out)).mono ?_
          rintro e w' ⟨rfl, rfl⟩
          rw [← HT2.out.1]
          have HE := Lib.hid H11.out.1.bel
          go_wp2_with fail
          go_ret
          exact ⟨rfl, HE.out⟩

/-! The row's step. -/
set_option maxRecDepth 100000 in
theorem lifted (os : Os) (started : os.Started) (H : Type) (enc : TypeId × Value → H) :
    ReturnsInHanded {} Try.checked os 5 .any (Rows.pileTwoSpec.pre6 enc Try.prog Try.f5 Rows.pileTwoRow.domain false) (Rows.pileTwoSpec.post enc Try.prog Try.f5 false true false false) := by
  refine returnsInHanded_of_change (C := Try.checked) own started (by kernel_rfl) Try.func5
    (ChangeSpec.witness6 (enc := enc) (C := Try.checked) false ⟨#[], #[.slice none 0 0, .slice none 0 0], []⟩ 8 (by kernel_rfl) (by kernel_rfl) (by kernel_rfl) (by kernel_rfl)) ?_
  intro W base args ds gs before hval0 hW hcnd _
  have hval : ∀ (j : Nat) t v, Try.f5.params[j]? = some t → args[j]? = some v → Value.okWide Try.prog W .any base t v := hval0
  have hW' := hW
  obtain ⟨p, q, hA0, hV, rfl, hfz, hnd⟩ := hW
  have hA : DataW.TrodAll enc Try.prog W 0 (fun _ => true) true Try.f5.params.toList args.toList ds p := hA0
  rw [Try.params5] at hA hval
  obtain ⟨v0, vs0, d0, ds0, p0, q0, hargs, rfl, rfl, h0, r0⟩ := trodAll_cons hA
  obtain ⟨v1, vs1, d1, ds1, p1, q1, rfl, rfl, rfl, h1, r1⟩ := trodAll_cons r0
  obtain ⟨rfl, rfl, rfl⟩ := trodAll_nil r1
  obtain rfl : args = #[v0, v1] := by cases args; simp_all
  obtain ⟨rfl, rfl⟩ := trodVars_none hV
  obtain ⟨a0, len0, cap0, rfl⟩ := okWide_slice Try.underlying22 (hval 0 22 v0 rfl rfl)
  have k0 := h0
  have lt0 : ∀ x ∈ p0, x.block < W.heap.size := by obtain ⟨m, hm⟩ := k0; exact DataW.trod_lt m _ _ _ hm
  obtain ⟨z0, w0⟩ : ∃ zs, IsRow .u8 W a0 len0 cap0 zs := by
    obtain ⟨fuel, hf⟩ := h0
    rcases open_ints Try.underlying22 Try.underlying5 (by kernel_rfl) hf with ⟨hcs, _⟩ | ⟨x, l, c, zs, hcs, _, hl, hm, hz, _, hcell, hwz⟩
    · simp [Value.cells] at hcs
      obtain ⟨rfl, rfl, rfl⟩ := hcs
      exact ⟨[], .inl ⟨rfl, rfl, rfl, rfl⟩⟩
    · simp [Value.cells] at hcs
      obtain ⟨rfl, rfl, rfl⟩ := hcs
      exact ⟨zs, .inr ⟨_, rfl, hl, hm, by simpa using hz, hcell, hwz⟩⟩
  obtain ⟨a1, len1, cap1, rfl⟩ := okWide_slice Try.underlying52 (hval 1 52 v1 rfl rfl)
  have k1 := h1
  have lt1 : ∀ x ∈ p1, x.block < W.heap.size := by obtain ⟨m, hm⟩ := k1; exact DataW.trod_lt m _ _ _ hm
  have w1 : IsBools W a1 len1 := by
    obtain ⟨fuel, hf⟩ := h1
    obtain ⟨A, l, c, hcs, hw⟩ := bools_open hf
    simp [Value.cells] at hcs
    obtain ⟨rfl, rfl, rfl⟩ := hcs
    exact hw
  clear hA0 hval0
  refine (walk a0 len0 cap0 z0 a1 len1 cap1 W w0 w1).mono fun e W' ⟨he, bel⟩ => ?_
  subst he
  exact ⟨_, rfl, _, _, _, [], _, [], hW', trodAll_mk1 (shut_bool Try.underlying4 _), (trodAll_cons_mk (Below.trod laidOut (by kernel_rfl) (of_decide_eq_true (by kernel_rfl)) k0 bel lt0) (trodAll_cons_mk (Below.trod laidOut (by kernel_rfl) (of_decide_eq_true (by kernel_rfl)) k1 bel lt1) trodAll_mk0)), rfl, bel.frame _, fun h => by cases h⟩

theorem over : Rows.pileTwoRow.holds Try.pinned (OpenSpec.ofChange Rows.pileTwoSpec) :=
  OpenClaim.holds_of_wide 5 Try.f5 rfl rfl rfl rfl rfl rfl rfl ⟨rfl, rfl, rfl, rfl, rfl⟩ rfl rfl rfl rfl rfl (by kernel_rfl) Try.func5 (by kernel_rfl)
    (of_decide_eq_true (by kernel_rfl)) (by unfold Func.isWrapper; first | (rw [if_pos (by decide +kernel)]; kernel_rfl) | (rw [if_neg (by decide +kernel)]; exact ⟨rfl, rfl⟩))
    (fun os started H enc _ => lifted os started H enc)

/-- The statement. -/
theorem proved : Rows.PileTwoSaid := over
#print axioms proved
end Go.Proofs.Ytmagdhcpbofkbaa.pileTwo
