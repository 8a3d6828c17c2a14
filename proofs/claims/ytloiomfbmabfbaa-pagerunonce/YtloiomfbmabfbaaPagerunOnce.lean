/-
  PagerunOnce: no page is taken twice; as many are free as there are, less those that are taken; the free runs are right; for every input the law returns true, and the arguments read behind the call as they read before. No condition.
-/
import Derived.Test.YtloiomfbmabfbaaRows
import Derived.WalkKit
import Derived.ProofKit
import Derived.OpenShut
import Derived.ShutString
import Derived.ChangeOld
import Derived.Below
import Derived.Test.YtloiomfbmabfbaaOn6
namespace Go.Proofs.Ytloiomfbmabfbaa.pagerunOnce
open Go.ChangeShapes Go.WideShapes Go.ChangeAt Go.RowKit
set_option linter.unusedVariables false

theorem own : ownKnob Try.prog.godebug = none := by kernel_rfl

/-! The walk. -/
set_option maxRecDepth 20000 in
set_option maxHeartbeats 16000000 in
theorem walk (a0 : Int) (a1 : Option Addr) (len1 cap1 : Nat) (w : World) (w0 : (Lit.int .u8 a0).wf = true) (w1 : IsActs w a1 len1) :
    Calls Try.prog 4 #[.int .u8 a0, .slice a1 len1 cap1] w fun e w' => e = .returned (.bool true) ∧ Below w.heap.size w w' := by
  obtain ⟨n0, hn0, rfl⟩ := u8_nat w0
  obtain ⟨P, hPe⟩ : ∃ P : Int, P = min (max (n0 : Int) 1) 1048576 := ⟨_, rfl⟩
  obtain ⟨hl1, acts, hla, ha⟩ := w1
  have HA := Lib.hid (And.intro hla ha)
  clear hla ha
  go_enter Try.func4, Try.ntmps4
  go_wp2_with fail
  refine (awake_any _).mono ?_
  rintro e w1 ⟨rfl, b1⟩
  have B1 := Lib.hid b1
  clear b1
  by_cases h60 : 60 < len1
  · have d1 : decide ((60 : Int) < (len1 : Int)) = true := by simp; omega
    go_wp2_with fail
    go_ret
    exact ⟨rfl, B1.out⟩
  have d1 : decide ((60 : Int) < (len1 : Int)) = false := by simp; omega
  go_wp2_with fail
  refine (s_new B1.out (n0 : Int) P hPe).mono ?_
  rintro e w2 ⟨g, rfl, h2, _, _⟩
  have H2 := Lib.hid h2
  clear h2
  have hPm : P ≤ 255 := by omega
  clear hPe
  have mk := make_bools w2
  have i5 := bools_made w2
  go_wp2_with fail
  obtain ⟨w5, hw5⟩ : ∃ w5, w5 = w2.alloc (.cells (madeCells #[.bool false] 256) 4) := ⟨_, rfl⟩
  obtain ⟨t, ht⟩ : ∃ t, t = w2.heap.size := ⟨_, rfl⟩
  have H5 := Lib.hid (show Std w w5 g P [⟨0, P⟩] 0 0 ∧ BArr w5 t (fun _ => false) from by rw [hw5, ht]; exact ⟨H2.out.alloc _, i5⟩)
  have HTG := Lib.hid (show t ≠ g ∧ w.heap.size ≤ t from by rw [ht]; exact ⟨by have := H2.out.has.lt; omega, H2.out.bel.size⟩)
  rw [← hw5, ← ht]
  clear mk i5 hw5 ht
  go_loopw [8, 9] (fun v8 v9 wr => ∃ (k : Nat) (l : List M.R) (T m : Int) (f : Nat → Bool), k ≤ len1 ∧ v9 = .int .i64 (k : Int) ∧ v8 = .int .i64 m ∧ Std w wr g P l T k ∧ BArr wr t f ∧ Mk P l f ∧ m = P - M.total l) (fun v8 v9 _ => len1 - (intOf v9).toNat)
  case atStart => exact ⟨0, _, _, 0, _, by omega, rfl, rfl, H5.out.1, H5.out.2, Mk.new P, by simp [M.total]⟩
  case round =>
    obtain ⟨k, l, T, m, f, hk, rfl, rfl, hs, hba, hmk, hm⟩ := hrel
    have HS := Lib.hid hs
    have HB := Lib.hid (And.intro hba (And.intro hmk hm))
    clear hs hba hmk hm
    by_cases hlt : k < len1
    · have hkl : k < acts.length := by have := HA.out.1; omega
      obtain ⟨bl, o, rfl, hc⟩ := HA.out.2 (by omega)
      have hkk := hc k hkl
      obtain ⟨b, hb⟩ : ∃ b, b = acts[k].g := ⟨_, rfl⟩
      obtain ⟨p, hpe⟩ : ∃ p, p = acts[k].p := ⟨_, rfl⟩
      obtain ⟨n, hne⟩ : ∃ n, n = acts[k].n := ⟨_, rfl⟩
      have HK := Lib.hid (show ∀ W, Below w.heap.size w W → W.cell? ⟨bl, o + k * 3 + 1, none⟩ = some (.int .i64 p) ∧ W.cell? ⟨bl, o + k * 3 + 2, none⟩ = some (.int .i64 n) from fun W hW => by
        have := hkk.keep hW
        rw [hpe, hne]
        exact ⟨this.2.1, this.2.2.1⟩)
      have c0 := (hkk.keep HS.out.bel).1
      rw [← hb] at c0
      have c1 := (HK.out _ HS.out.bel).1
      have c2 := (HK.out _ HS.out.bel).2
      have hp : -9223372036854775808 ≤ p := by rw [hpe]; exact hkk.2.2.2.1.1
      clear hc hkk hb hpe hne
      cases b with
      | true =>
        rcases Bool.eq_false_or_eq_true (giveB l P p n) with hb | hb
        · have hg := give_step HS.out.fit.ok hb
          have hP255 := hPm
          obtain ⟨a, rfl⟩ : ∃ a : Nat, p = (a : Int) := ⟨p.toNat, by omega⟩
          obtain ⟨q, rfl⟩ : ∃ q : Nat, n = (q : Int) := ⟨n.toNat, by omega⟩
          have hmk := HB.out.2.1.give HS.out.fit.ok hb a q rfl rfl
          obtain ⟨L1, hL1⟩ : ∃ L1, L1 = giveL l P (a : Int) (q : Int) := ⟨_, rfl⟩
          obtain ⟨T1, hT1⟩ : ∃ T1, T1 = T + 1 + (l.length : Int) := ⟨_, rfl⟩
          rw [← hL1] at hmk hg
          have GE := Lib.hid (show gvE l P (a : Int) (q : Int) = 0 ∧ gvL l P (a : Int) (q : Int) = L1 ∧ gvT l P (a : Int) (q : Int) T = T1 from ⟨by rw [gvE, if_pos hb], by rw [gvL, if_pos hb, hL1], by rw [gvT, if_pos hb, hT1]⟩)
          have HMK := Lib.hid hmk.1
          have HF := Lib.hid hmk.2
          have HR := Lib.hid (show a + q < 256 by omega)
          have HTO := Lib.hid hg.2.1
          have HMB := Lib.hid (show m = P - M.total l ∧ 0 ≤ M.total l ∧ M.total l ≤ P + 1 ∧ P ≤ 255 ∧ 1 ≤ P ∧ q < 256 from ⟨HB.out.2.2, M.total_nonneg HS.out.fit.ok, by have := M.total_le HS.out.fit.ok (by have := HS.out.p1; omega); omega, hPm, HS.out.p1, by omega⟩)
          clear hb hg hmk hL1 hT1
          go_wp2_with fail
          refine wp_region_noPanic ?_
          refine wp_region_held_drew (S := fun W => W.cell? ⟨bl, o + k * 3 + 1, none⟩ = some (.int .i64 (a : Int)) ∧ W.cell? ⟨bl, o + k * 3 + 2, none⟩ = some (.int .i64 (q : Int))) (by kernel_rfl) (⟨c1, c2⟩) (fun hHeld => ?_)
          refine wpAnyH_take (i := 0) (oi := ({ dst := some 35, op := Op.move (Operand.tmp 6), type := 24, pos := "law.go:77", after := #[], guard := none } : Oper)) (v := ?_) rfl (by kernel_rfl) (by kernel_rfl) (by kernel_rfl) (fun _ _ _ h => h) (Or.inl ⟨by rfl, ?_⟩) (by assumption) ?_
          rotate_left
          · (intro w hSw; (try dsimp only at hSw); go_simp) <;> with_reducible rfl
          (try simp only [Act.put, List.setIfInBounds_toArray, List.set_cons_zero, List.set_cons_succ])
          refine wpAnyH_take (i := 1) (oi := ({ dst := some 36, op := Op.move (Operand.tmp 1), type := 22, pos := "law.go:77", after := #[], guard := none } : Oper)) (v := ?_) rfl (by kernel_rfl) (by kernel_rfl) (by kernel_rfl) (fun _ _ _ h => h) (Or.inl ⟨by rfl, ?_⟩) (by assumption) ?_
          rotate_left
          · (intro w hSw; (try dsimp only at hSw); go_simp) <;> with_reducible rfl
          (try simp only [Act.put, List.setIfInBounds_toArray, List.set_cons_zero, List.set_cons_succ])
          refine wpAnyH_take (i := 2) (oi := ({ dst := some 37, op := Op.move (Operand.tmp 9), type := 3, pos := "law.go:77", after := #[], guard := none } : Oper)) (v := ?_) rfl (by kernel_rfl) (by kernel_rfl) (by kernel_rfl) (fun _ _ _ h => h) (Or.inl ⟨by rfl, ?_⟩) (by assumption) ?_
          rotate_left
          · (intro w hSw; (try dsimp only at hSw); go_simp) <;> with_reducible rfl
          (try simp only [Act.put, List.setIfInBounds_toArray, List.set_cons_zero, List.set_cons_succ])
          refine wpAnyH_take (i := 3) (oi := ({ dst := some 38, op := Op.indexAddr 22 (Operand.tmp 36) (Operand.tmp 37), type := 0, pos := "law.go:77", after := #[{ on := 1, ground := Ground.data }, { on := 2, ground := Ground.data }], guard := none } : Oper)) (v := ?_) rfl (by kernel_rfl) (by kernel_rfl) (by kernel_rfl) (fun _ _ _ h => h) (Or.inl ⟨by rfl, ?_⟩) (by assumption) ?_
          rotate_left
          · (intro w hSw; (try dsimp only at hSw); go_simp) <;> with_reducible rfl
          (try simp only [Act.put, List.setIfInBounds_toArray, List.set_cons_zero, List.set_cons_succ])
          refine wpAnyH_take (i := 4) (oi := ({ dst := some 39, op := Op.fieldAddr 31 (Operand.tmp 38) 1, type := 0, pos := "law.go:77", after := #[{ on := 3, ground := Ground.data }], guard := none } : Oper)) (v := ?_) rfl (by kernel_rfl) (by kernel_rfl) (by kernel_rfl) (fun _ _ _ h => h) (Or.inl ⟨by rfl, ?_⟩) (by assumption) ?_
          rotate_left
          · (intro w hSw; (try dsimp only at hSw); go_simp) <;> with_reducible rfl
          (try simp only [Act.put, List.setIfInBounds_toArray, List.set_cons_zero, List.set_cons_succ])
          refine wpAnyH_take (i := 5) (oi := ({ dst := some 40, op := Op.load 3 (Operand.tmp 39), type := 3, pos := "law.go:77", after := #[{ on := 4, ground := Ground.data }], guard := none } : Oper)) (v := ?_) rfl (by kernel_rfl) (by kernel_rfl) (by kernel_rfl) (fun _ _ _ h => h) (Or.inl ⟨by rfl, ?_⟩) (by assumption) ?_
          rotate_left
          · (intro w hSw; (try dsimp only at hSw); go_simp) <;> with_reducible rfl
          (try simp only [Act.put, List.setIfInBounds_toArray, List.set_cons_zero, List.set_cons_succ])
          refine wpAnyH_take (i := 6) (oi := ({ dst := some 41, op := Op.move (Operand.tmp 1), type := 22, pos := "law.go:77", after := #[], guard := none } : Oper)) (v := ?_) rfl (by kernel_rfl) (by kernel_rfl) (by kernel_rfl) (fun _ _ _ h => h) (Or.inl ⟨by rfl, ?_⟩) (by assumption) ?_
          rotate_left
          · (intro w hSw; (try dsimp only at hSw); go_simp) <;> with_reducible rfl
          (try simp only [Act.put, List.setIfInBounds_toArray, List.set_cons_zero, List.set_cons_succ])
          refine wpAnyH_take (i := 7) (oi := ({ dst := some 42, op := Op.move (Operand.tmp 9), type := 3, pos := "law.go:77", after := #[], guard := none } : Oper)) (v := ?_) rfl (by kernel_rfl) (by kernel_rfl) (by kernel_rfl) (fun _ _ _ h => h) (Or.inl ⟨by rfl, ?_⟩) (by assumption) ?_
          rotate_left
          · (intro w hSw; (try dsimp only at hSw); go_simp) <;> with_reducible rfl
          (try simp only [Act.put, List.setIfInBounds_toArray, List.set_cons_zero, List.set_cons_succ])
          refine wpAnyH_take (i := 8) (oi := ({ dst := some 43, op := Op.indexAddr 22 (Operand.tmp 41) (Operand.tmp 42), type := 0, pos := "law.go:77", after := #[{ on := 6, ground := Ground.data }, { on := 7, ground := Ground.data }], guard := none } : Oper)) (v := ?_) rfl (by kernel_rfl) (by kernel_rfl) (by kernel_rfl) (fun _ _ _ h => h) (Or.inl ⟨by rfl, ?_⟩) (by assumption) ?_
          rotate_left
          · (intro w hSw; (try dsimp only at hSw); go_simp) <;> with_reducible rfl
          (try simp only [Act.put, List.setIfInBounds_toArray, List.set_cons_zero, List.set_cons_succ])
          refine wpAnyH_take (i := 9) (oi := ({ dst := some 44, op := Op.fieldAddr 31 (Operand.tmp 43) 2, type := 0, pos := "law.go:77", after := #[{ on := 8, ground := Ground.data }], guard := none } : Oper)) (v := ?_) rfl (by kernel_rfl) (by kernel_rfl) (by kernel_rfl) (fun _ _ _ h => h) (Or.inl ⟨by rfl, ?_⟩) (by assumption) ?_
          rotate_left
          · (intro w hSw; (try dsimp only at hSw); go_simp) <;> with_reducible rfl
          (try simp only [Act.put, List.setIfInBounds_toArray, List.set_cons_zero, List.set_cons_succ])
          refine wpAnyH_take (i := 10) (oi := ({ dst := some 45, op := Op.load 3 (Operand.tmp 44), type := 3, pos := "law.go:77", after := #[{ on := 9, ground := Ground.data }], guard := none } : Oper)) (v := ?_) rfl (by kernel_rfl) (by kernel_rfl) (by kernel_rfl) (fun _ _ _ h => h) (Or.inl ⟨by rfl, ?_⟩) (by assumption) ?_
          rotate_left
          · (intro w hSw; (try dsimp only at hSw); go_simp) <;> with_reducible rfl
          (try simp only [Act.put, List.setIfInBounds_toArray, List.set_cons_zero, List.set_cons_succ])
          refine wpAnyH_ready (rs := [11]) (by kernel_rfl) (by simp) ?_
          refine AllReadyH.cons (o := ({ dst := some 46, op := Op.call { callee := Callee.value (Operand.func 12), args := #[Operand.tmp 35, Operand.tmp 40, Operand.tmp 45], argTypes := #[24, 3, 3] }, type := 32, pos := "law.go:77", after := #[{ on := 0, ground := Ground.data }, { on := 5, ground := Ground.data }, { on := 10, ground := Ground.data }], guard := none } : Oper)) rfl (fun K hK => ?_) ?_
          · go_simp
            refine (s_give HS.out.drew (by omega) (a : Int) (q : Int) hp).mono ?_
            rintro e w4 ⟨rfl, h4, g4⟩
            rw [GE.out.1]
            rw [GE.out.2.1, GE.out.2.2] at h4
            have H4 := Lib.hid (And.intro h4 ((HB.out.1.below (Below.refl _ _).drew).grown g4 HTG.out.1))
            clear h4 g4
            go_wp2_with fail
            refine hK.out _ _ ?_ (fun hHeld => ?_)
            · exact HK.out _ H4.out.1.bel
            clear hK K
            (try simp only [Act.put, List.setIfInBounds_toArray, List.set_cons_zero, List.set_cons_succ])
            refine wpAnyH_take (i := 12) (oi := ({ dst := some 47, op := Op.binOp BinOp.neq 32 (Operand.tmp 46) (Operand.const (Value.int IntKind.i64 0)) 32, type := 4, pos := "law.go:77", after := #[{ on := 11, ground := Ground.data }], guard := none } : Oper)) (v := ?_) rfl (by kernel_rfl) (by kernel_rfl) (by kernel_rfl) (fun _ _ _ h => h) (Or.inl ⟨by rfl, ?_⟩) (by assumption) ?_
            rotate_left
            · (intro w hSw; (try dsimp only at hSw); go_simp) <;> with_reducible rfl
            (try simp only [Act.put, List.setIfInBounds_toArray, List.set_cons_zero, List.set_cons_succ])
            refine wpAnyH_done (by kernel_rfl) ?_ _
            refine NoPanic.normal ?_
            go_wp2_with fail
            go_loopw [8, 10] (fun v8 v10 wr => ∃ (i : Nat) (mm : Int), i ≤ q ∧ v10 = .int .i64 (i : Int) ∧ v8 = .int .i64 mm ∧ mm = m - (i : Int) ∧ Std w wr g P L1 T1 (k + 1) ∧ BArr wr t (upd f a i false)) (fun v8 v10 _ => q - (intOf v10).toNat)
            case atStart => exact ⟨0, m, by omega, rfl, rfl, by omega, H4.out.1, by rw [upd_zero]; exact H4.out.2⟩
            case round =>
              obtain ⟨i, mm, hi, rfl, rfl, hmm, hsi, hbi⟩ := hrel
              have HI := Lib.hid (And.intro hsi (And.intro hbi hmm))
              have e1 := (HK.out _ hsi.bel).1
              have e2 := (HK.out _ hsi.bel).2
              clear hsi hbi hmm
              have hq256 : q < 256 := HMB.out.2.2.2.2.2
              by_cases hiq : i < q
              · obtain ⟨x, hx⟩ : ∃ x, x = a + i := ⟨_, rfl⟩
                have hx256 : x < 256 := by have := HR.out; omega
                have HWX := Lib.hid (show wrap64 ((a : Int) + (i : Int)) = (x : Int) by have := HR.out; unfold wrap64; omega)
                have d0 := (HI.out.2.1.cells x hx256).1
                have d1 := (HI.out.2.1.cells x hx256).2
                have hfx : upd f a i false x = true := by rw [hx, upd_at]; exact HF.out i hiq
                rw [hfx] at d0
                have hset := HI.out.2.1.set x hx256 false
                have HSET := Lib.hid (show BArr (wr.setCell ⟨t, x, none⟩ (.bool false)) t (upd f a (i + 1) false) from by rw [upd_succ, ← hx]; exact hset)
                have HSTD := Lib.hid (HI.out.2.1.std HI.out.1 HTG.out.1 HTG.out.2 x (.bool false))
                clear hset d1
                have d1 := (HI.out.2.1.cells x hx256).2
                have hmb : -100000 ≤ mm ∧ mm ≤ 100000 := by have := HI.out.2.2; have := HMB.out; omega
                have HW1 := Lib.hid (show wrap64 (mm - 1) = mm - 1 by unfold wrap64; omega)
                have HMM := Lib.hid (show mm - 1 = m - ((i + 1 : Nat) : Int) by have := HI.out.2.2; omega)
            
                clear hfx hx hmb
                have hwx : True → wrap64 ((a : Int) + (i : Int)) = (x : Int) := fun _ => HWX.out
                go_wp2_with fail
                clear hwx
                go_roundw
                case rel => exact ⟨i + 1, mm - 1, by omega, by go_num, by rw [HW1.out], HMM.out, HSTD.out, HSET.out⟩
                case measure => simp [intOf]; omega
              · have hiq2 : i = q := by omega
                have H1 := Lib.hid (show Std w wr g P L1 T1 (k + 1) ∧ BArr wr t (upd f a q false) ∧ Mk P L1 (upd f a q false) from ⟨HI.out.1, by rw [← hiq2]; exact HI.out.2.1, HMK.out⟩)
                obtain ⟨tt, htt⟩ : ∃ tt, tt = M.total L1 := ⟨_, rfl⟩
                have TT := Lib.hid htt.symm
                obtain ⟨m1, hm1⟩ : ∃ m1, m1 = mm := ⟨_, rfl⟩
                have HM1 := Lib.hid (show m1 = P - tt by have := HI.out.2.2; have := HMB.out; have := HTO.out; rw [hm1, htt]; omega)
                rw [← hm1]
                clear hm1 htt hiq2
                have hmm1 := HM1.out
                have htn := M.total_nonneg H1.out.1.fit.ok
                have htl := M.total_le H1.out.1.fit.ok (by have := H1.out.1.p1; omega)
                rw [TT.out] at htn htl
                have hp1 := H1.out.1.p1
                have hp2 := H1.out.1.p2
                have HWS := Lib.hid (show wrap64 (P - m1) = tt by unfold wrap64; omega)
                have OKB := Lib.hid ((M.okB_iff _ _ _).2 H1.out.1.fit.ok)
                clear hmm1 htn htl hp1 hp2
                go_wp2_with fail
                refine (s_free H1.out.1).mono ?_
                rintro e y1 ⟨rfl, q1⟩
                have Y1 := Lib.hid (And.intro (H1.out.1.below q1) (H1.out.2.1.below q1))
                clear q1
                rw [TT.out]
                have hws := HWS.out
                go_wp2_with fail
                refine (s_pages Y1.out.1).mono ?_
                rintro e y2 ⟨rfl, q2⟩
                have Y2 := Lib.hid (And.intro (Y1.out.1.below q2) (Y1.out.2.below q2))
                clear q2
                go_wp2_with fail
                clear hws
                refine (s_runs Y2.out.1).mono ?_
                rintro e y3 ⟨A9, t9, c9, rfl, ht9, r9, q3⟩
                have Y3 := Lib.hid (And.intro (Y2.out.1.below q3) (And.intro (Y2.out.2.below q3) (And.intro r9 ht9)))
                clear q3 r9 ht9
                go_wp2_with fail
                refine (s_pages Y3.out.1).mono ?_
                rintro e y4 ⟨rfl, q4⟩
                have Y4 := Lib.hid (And.intro (Y3.out.1.below q4) (And.intro (Y3.out.2.1.below q4) (And.intro (Y3.out.2.2.1.below q4) Y3.out.2.2.2)))
                clear q4
                go_wp2_with fail
                refine (right_any _ A9 _ t9 c9 Y4.out.2.2.2 Y4.out.2.2.1 (by have := len_big Y4.out.1.fit.ok (by have := Y4.out.1.p1; omega) Y4.out.1.p2; have := Y4.out.2.2.2; omega) P (by have := Y4.out.1.p2; omega)).mono ?_
                rintro e y5 ⟨rfl, q5⟩
                rw [OKB.out]
                have Y5 := Lib.hid (And.intro (Y4.out.1.below q5) (Y4.out.2.1.below q5))
                clear q5
                go_wp2_with fail
                go_roundw
                case rel => exact ⟨k + 1, _, _, m1, _, by omega, by go_num, rfl, Y5.out.1, Y5.out.2, H1.out.2.2, by rw [HM1.out, TT.out]⟩
                case measure => simp [intOf]; omega
            
          exact AllReadyH.nil
        · have GE := Lib.hid (show gvE l P p n = 1 ∧ gvL l P p n = l ∧ gvT l P p n T = T from ⟨by rw [gvE, hb]; rfl, by rw [gvL, hb]; rfl, by rw [gvT, hb]; rfl⟩)
          clear hb
          go_wp2_with fail
          refine wp_region_noPanic ?_
          refine wp_region_held_drew (S := fun W => W.cell? ⟨bl, o + k * 3 + 1, none⟩ = some (.int .i64 p) ∧ W.cell? ⟨bl, o + k * 3 + 2, none⟩ = some (.int .i64 n)) (by kernel_rfl) (⟨c1, c2⟩) (fun hHeld => ?_)
          refine wpAnyH_take (i := 0) (oi := ({ dst := some 35, op := Op.move (Operand.tmp 6), type := 24, pos := "law.go:77", after := #[], guard := none } : Oper)) (v := ?_) rfl (by kernel_rfl) (by kernel_rfl) (by kernel_rfl) (fun _ _ _ h => h) (Or.inl ⟨by rfl, ?_⟩) (by assumption) ?_
          rotate_left
          · (intro w hSw; (try dsimp only at hSw); go_simp) <;> with_reducible rfl
          (try simp only [Act.put, List.setIfInBounds_toArray, List.set_cons_zero, List.set_cons_succ])
          refine wpAnyH_take (i := 1) (oi := ({ dst := some 36, op := Op.move (Operand.tmp 1), type := 22, pos := "law.go:77", after := #[], guard := none } : Oper)) (v := ?_) rfl (by kernel_rfl) (by kernel_rfl) (by kernel_rfl) (fun _ _ _ h => h) (Or.inl ⟨by rfl, ?_⟩) (by assumption) ?_
          rotate_left
          · (intro w hSw; (try dsimp only at hSw); go_simp) <;> with_reducible rfl
          (try simp only [Act.put, List.setIfInBounds_toArray, List.set_cons_zero, List.set_cons_succ])
          refine wpAnyH_take (i := 2) (oi := ({ dst := some 37, op := Op.move (Operand.tmp 9), type := 3, pos := "law.go:77", after := #[], guard := none } : Oper)) (v := ?_) rfl (by kernel_rfl) (by kernel_rfl) (by kernel_rfl) (fun _ _ _ h => h) (Or.inl ⟨by rfl, ?_⟩) (by assumption) ?_
          rotate_left
          · (intro w hSw; (try dsimp only at hSw); go_simp) <;> with_reducible rfl
          (try simp only [Act.put, List.setIfInBounds_toArray, List.set_cons_zero, List.set_cons_succ])
          refine wpAnyH_take (i := 3) (oi := ({ dst := some 38, op := Op.indexAddr 22 (Operand.tmp 36) (Operand.tmp 37), type := 0, pos := "law.go:77", after := #[{ on := 1, ground := Ground.data }, { on := 2, ground := Ground.data }], guard := none } : Oper)) (v := ?_) rfl (by kernel_rfl) (by kernel_rfl) (by kernel_rfl) (fun _ _ _ h => h) (Or.inl ⟨by rfl, ?_⟩) (by assumption) ?_
          rotate_left
          · (intro w hSw; (try dsimp only at hSw); go_simp) <;> with_reducible rfl
          (try simp only [Act.put, List.setIfInBounds_toArray, List.set_cons_zero, List.set_cons_succ])
          refine wpAnyH_take (i := 4) (oi := ({ dst := some 39, op := Op.fieldAddr 31 (Operand.tmp 38) 1, type := 0, pos := "law.go:77", after := #[{ on := 3, ground := Ground.data }], guard := none } : Oper)) (v := ?_) rfl (by kernel_rfl) (by kernel_rfl) (by kernel_rfl) (fun _ _ _ h => h) (Or.inl ⟨by rfl, ?_⟩) (by assumption) ?_
          rotate_left
          · (intro w hSw; (try dsimp only at hSw); go_simp) <;> with_reducible rfl
          (try simp only [Act.put, List.setIfInBounds_toArray, List.set_cons_zero, List.set_cons_succ])
          refine wpAnyH_take (i := 5) (oi := ({ dst := some 40, op := Op.load 3 (Operand.tmp 39), type := 3, pos := "law.go:77", after := #[{ on := 4, ground := Ground.data }], guard := none } : Oper)) (v := ?_) rfl (by kernel_rfl) (by kernel_rfl) (by kernel_rfl) (fun _ _ _ h => h) (Or.inl ⟨by rfl, ?_⟩) (by assumption) ?_
          rotate_left
          · (intro w hSw; (try dsimp only at hSw); go_simp) <;> with_reducible rfl
          (try simp only [Act.put, List.setIfInBounds_toArray, List.set_cons_zero, List.set_cons_succ])
          refine wpAnyH_take (i := 6) (oi := ({ dst := some 41, op := Op.move (Operand.tmp 1), type := 22, pos := "law.go:77", after := #[], guard := none } : Oper)) (v := ?_) rfl (by kernel_rfl) (by kernel_rfl) (by kernel_rfl) (fun _ _ _ h => h) (Or.inl ⟨by rfl, ?_⟩) (by assumption) ?_
          rotate_left
          · (intro w hSw; (try dsimp only at hSw); go_simp) <;> with_reducible rfl
          (try simp only [Act.put, List.setIfInBounds_toArray, List.set_cons_zero, List.set_cons_succ])
          refine wpAnyH_take (i := 7) (oi := ({ dst := some 42, op := Op.move (Operand.tmp 9), type := 3, pos := "law.go:77", after := #[], guard := none } : Oper)) (v := ?_) rfl (by kernel_rfl) (by kernel_rfl) (by kernel_rfl) (fun _ _ _ h => h) (Or.inl ⟨by rfl, ?_⟩) (by assumption) ?_
          rotate_left
          · (intro w hSw; (try dsimp only at hSw); go_simp) <;> with_reducible rfl
          (try simp only [Act.put, List.setIfInBounds_toArray, List.set_cons_zero, List.set_cons_succ])
          refine wpAnyH_take (i := 8) (oi := ({ dst := some 43, op := Op.indexAddr 22 (Operand.tmp 41) (Operand.tmp 42), type := 0, pos := "law.go:77", after := #[{ on := 6, ground := Ground.data }, { on := 7, ground := Ground.data }], guard := none } : Oper)) (v := ?_) rfl (by kernel_rfl) (by kernel_rfl) (by kernel_rfl) (fun _ _ _ h => h) (Or.inl ⟨by rfl, ?_⟩) (by assumption) ?_
          rotate_left
          · (intro w hSw; (try dsimp only at hSw); go_simp) <;> with_reducible rfl
          (try simp only [Act.put, List.setIfInBounds_toArray, List.set_cons_zero, List.set_cons_succ])
          refine wpAnyH_take (i := 9) (oi := ({ dst := some 44, op := Op.fieldAddr 31 (Operand.tmp 43) 2, type := 0, pos := "law.go:77", after := #[{ on := 8, ground := Ground.data }], guard := none } : Oper)) (v := ?_) rfl (by kernel_rfl) (by kernel_rfl) (by kernel_rfl) (fun _ _ _ h => h) (Or.inl ⟨by rfl, ?_⟩) (by assumption) ?_
          rotate_left
          · (intro w hSw; (try dsimp only at hSw); go_simp) <;> with_reducible rfl
          (try simp only [Act.put, List.setIfInBounds_toArray, List.set_cons_zero, List.set_cons_succ])
          refine wpAnyH_take (i := 10) (oi := ({ dst := some 45, op := Op.load 3 (Operand.tmp 44), type := 3, pos := "law.go:77", after := #[{ on := 9, ground := Ground.data }], guard := none } : Oper)) (v := ?_) rfl (by kernel_rfl) (by kernel_rfl) (by kernel_rfl) (fun _ _ _ h => h) (Or.inl ⟨by rfl, ?_⟩) (by assumption) ?_
          rotate_left
          · (intro w hSw; (try dsimp only at hSw); go_simp) <;> with_reducible rfl
          (try simp only [Act.put, List.setIfInBounds_toArray, List.set_cons_zero, List.set_cons_succ])
          refine wpAnyH_ready (rs := [11]) (by kernel_rfl) (by simp) ?_
          refine AllReadyH.cons (o := ({ dst := some 46, op := Op.call { callee := Callee.value (Operand.func 12), args := #[Operand.tmp 35, Operand.tmp 40, Operand.tmp 45], argTypes := #[24, 3, 3] }, type := 32, pos := "law.go:77", after := #[{ on := 0, ground := Ground.data }, { on := 5, ground := Ground.data }, { on := 10, ground := Ground.data }], guard := none } : Oper)) rfl (fun K hK => ?_) ?_
          · go_simp
            refine (s_give HS.out.drew (by omega) p n hp).mono ?_
            rintro e w4 ⟨rfl, h4, g4⟩
            rw [GE.out.1]
            rw [GE.out.2.1, GE.out.2.2] at h4
            have H4 := Lib.hid (And.intro h4 ((HB.out.1.below (Below.refl _ _).drew).grown g4 HTG.out.1))
            clear h4 g4
            go_wp2_with fail
            refine hK.out _ _ ?_ (fun hHeld => ?_)
            · exact HK.out _ H4.out.1.bel
            clear hK K
            (try simp only [Act.put, List.setIfInBounds_toArray, List.set_cons_zero, List.set_cons_succ])
            refine wpAnyH_take (i := 12) (oi := ({ dst := some 47, op := Op.binOp BinOp.neq 32 (Operand.tmp 46) (Operand.const (Value.int IntKind.i64 0)) 32, type := 4, pos := "law.go:77", after := #[{ on := 11, ground := Ground.data }], guard := none } : Oper)) (v := ?_) rfl (by kernel_rfl) (by kernel_rfl) (by kernel_rfl) (fun _ _ _ h => h) (Or.inl ⟨by rfl, ?_⟩) (by assumption) ?_
            rotate_left
            · (intro w hSw; (try dsimp only at hSw); go_simp) <;> with_reducible rfl
            (try simp only [Act.put, List.setIfInBounds_toArray, List.set_cons_zero, List.set_cons_succ])
            refine wpAnyH_done (by kernel_rfl) ?_ _
            refine NoPanic.normal ?_
            go_wp2_with fail
            go_roundw
            case rel => exact ⟨k + 1, l, T, m, f, by omega, by go_num, rfl, H4.out.1, H4.out.2, HB.out.2⟩
            case measure => simp [intOf]; omega
          exact AllReadyH.nil
      | false =>
        go_wp2_with fail
        refine (s_take HS.out (by omega) n).mono ?_
        rintro e w4 ⟨rfl, h4, g4⟩
        rcases Bool.eq_false_or_eq_true (takeB l n) with hb | hb
        · have hg := take_step HS.out.fit.ok hb
          obtain ⟨q, rfl⟩ : ∃ q : Nat, n = (q : Int) := ⟨n.toNat, by omega⟩
          obtain ⟨a, ha⟩ : ∃ a : Nat, (a : Int) = takeP l (q : Int) := ⟨(takeP l (q : Int)).toNat, by omega⟩
          have hmk := HB.out.2.1.take HS.out.fit.ok hb a q ha rfl
          obtain ⟨L1, hL1⟩ : ∃ L1, L1 = takeL l (q : Int) := ⟨_, rfl⟩
          obtain ⟨T1, hT1⟩ : ∃ T1, T1 = T + 1 + (l.length : Int) := ⟨_, rfl⟩
          rw [← hL1] at hmk hg
          have e1 : tkE l (q : Int) = 0 := by rw [tkE, if_neg (by omega), if_pos hb]
          have e2 : tkL l (q : Int) = L1 := by rw [tkL, if_pos hb, hL1]
          have e3 : tkT l (q : Int) T = T1 := by rw [tkT, if_pos hb, hT1]
          rw [e1, ← ha]
          rw [e2, e3] at h4
          rw [← ha] at hg
          have H4 := Lib.hid (And.intro h4 (HB.out.1.grown g4 HTG.out.1))
          have HMK := Lib.hid hmk.1
          have HF := Lib.hid hmk.2
          have HR := Lib.hid (show a + q < 256 by omega)
          have HTO := Lib.hid hg.2.1
          have HMB := Lib.hid (show m = P - M.total l ∧ 0 ≤ M.total l ∧ M.total l ≤ P + 1 ∧ P ≤ 255 ∧ 1 ≤ P ∧ q < 256 from ⟨HB.out.2.2, M.total_nonneg HS.out.fit.ok, by have := M.total_le HS.out.fit.ok (by have := HS.out.p1; omega); omega, hPm, HS.out.p1, by omega⟩)
          have HAP := Lib.hid hg.2.2.2.2.2.2
          clear hb hg hmk hL1 hT1 e1 e2 e3 h4 g4 ha
          go_wp2_with fail
          go_loopw [8, 13] (fun v8 v10 wr => ∃ (i : Nat) (mm : Int), i ≤ q ∧ v10 = .int .i64 (i : Int) ∧ v8 = .int .i64 mm ∧ mm = m + (i : Int) ∧ Std w wr g P L1 T1 (k + 1) ∧ BArr wr t (upd f a i true)) (fun v8 v10 _ => q - (intOf v10).toNat)
          case atStart => exact ⟨0, m, by omega, rfl, rfl, by omega, H4.out.1, by rw [upd_zero]; exact H4.out.2⟩
          case round =>
            obtain ⟨i, mm, hi, rfl, rfl, hmm, hsi, hbi⟩ := hrel
            have HI := Lib.hid (And.intro hsi (And.intro hbi hmm))
            have e1 := (HK.out _ hsi.bel).1
            have e2 := (HK.out _ hsi.bel).2
            clear hsi hbi hmm
            have hq256 : q < 256 := HMB.out.2.2.2.2.2
            by_cases hiq : i < q
            · obtain ⟨x, hx⟩ : ∃ x, x = a + i := ⟨_, rfl⟩
              have hx256 : x < 256 := by have := HR.out; omega
              have HWX := Lib.hid (show wrap64 ((a : Int) + (i : Int)) = (x : Int) by have := HR.out; unfold wrap64; omega)
              have d0 := (HI.out.2.1.cells x hx256).1
              have d1 := (HI.out.2.1.cells x hx256).2
              have hfx : upd f a i true x = false := by rw [hx, upd_at]; exact HF.out i hiq
              rw [hfx] at d0
              have hx0 := Lib.hid hx
              have hfx0 := Lib.hid hfx
              clear d0 d1
              have hmb : -100000 ≤ mm ∧ mm ≤ 100000 := by have := HI.out.2.2; have := HMB.out; omega
              have HW1 := Lib.hid (show wrap64 (mm + 1) = mm + 1 by unfold wrap64; omega)
              have HMM := Lib.hid (show mm + 1 = m + ((i + 1 : Nat) : Int) by have := HI.out.2.2; omega)
              have hge : decide (P ≤ (x : Int)) = false := by have := HAP.out; simp; omega
              clear hfx hx hmb
              have hwx : True → wrap64 ((a : Int) + (i : Int)) = (x : Int) := fun _ => HWX.out
              go_wp2_with fail
              refine (s_pages HI.out.1).mono ?_
              rintro e y0 ⟨rfl, q0⟩
              have HI0 := Lib.hid (And.intro (HI.out.1.below q0) (HI.out.2.1.below q0))
              have d0' := (HI0.out.2.cells x hx256).1
              have d1' := (HI0.out.2.cells x hx256).2
              rw [hfx0.out] at d0'
              have hset := HI0.out.2.set x hx256 true
              have HSET := Lib.hid (show BArr (y0.setCell ⟨t, x, none⟩ (.bool true)) t (upd f a (i + 1) true) from by rw [upd_succ, ← hx0.out]; exact hset)
              have HSTD := Lib.hid (HI0.out.2.std HI0.out.1 HTG.out.1 HTG.out.2 x (.bool true))
              clear hset q0
              go_wp2_with fail
              clear hwx
              go_roundw
              case rel => exact ⟨i + 1, mm + 1, by omega, by go_num, by rw [HW1.out], HMM.out, HSTD.out, HSET.out⟩
              case measure => simp [intOf]; omega
            · have hiq2 : i = q := by omega
              have H1 := Lib.hid (show Std w wr g P L1 T1 (k + 1) ∧ BArr wr t (upd f a q true) ∧ Mk P L1 (upd f a q true) from ⟨HI.out.1, by rw [← hiq2]; exact HI.out.2.1, HMK.out⟩)
              obtain ⟨tt, htt⟩ : ∃ tt, tt = M.total L1 := ⟨_, rfl⟩
              have TT := Lib.hid htt.symm
              obtain ⟨m1, hm1⟩ : ∃ m1, m1 = mm := ⟨_, rfl⟩
              have HM1 := Lib.hid (show m1 = P - tt by have := HI.out.2.2; have := HMB.out; have := HTO.out; rw [hm1, htt]; omega)
              rw [← hm1]
              clear hm1 htt hiq2
              have hmm1 := HM1.out
              have htn := M.total_nonneg H1.out.1.fit.ok
              have htl := M.total_le H1.out.1.fit.ok (by have := H1.out.1.p1; omega)
              rw [TT.out] at htn htl
              have hp1 := H1.out.1.p1
              have hp2 := H1.out.1.p2
              have HWS := Lib.hid (show wrap64 (P - m1) = tt by unfold wrap64; omega)
              have OKB := Lib.hid ((M.okB_iff _ _ _).2 H1.out.1.fit.ok)
              clear hmm1 htn htl hp1 hp2
              go_wp2_with fail
              refine (s_free H1.out.1).mono ?_
              rintro e y1 ⟨rfl, q1⟩
              have Y1 := Lib.hid (And.intro (H1.out.1.below q1) (H1.out.2.1.below q1))
              clear q1
              rw [TT.out]
              have hws := HWS.out
              go_wp2_with fail
              refine (s_pages Y1.out.1).mono ?_
              rintro e y2 ⟨rfl, q2⟩
              have Y2 := Lib.hid (And.intro (Y1.out.1.below q2) (Y1.out.2.below q2))
              clear q2
              go_wp2_with fail
              clear hws
              refine (s_runs Y2.out.1).mono ?_
              rintro e y3 ⟨A9, t9, c9, rfl, ht9, r9, q3⟩
              have Y3 := Lib.hid (And.intro (Y2.out.1.below q3) (And.intro (Y2.out.2.below q3) (And.intro r9 ht9)))
              clear q3 r9 ht9
              go_wp2_with fail
              refine (s_pages Y3.out.1).mono ?_
              rintro e y4 ⟨rfl, q4⟩
              have Y4 := Lib.hid (And.intro (Y3.out.1.below q4) (And.intro (Y3.out.2.1.below q4) (And.intro (Y3.out.2.2.1.below q4) Y3.out.2.2.2)))
              clear q4
              go_wp2_with fail
              refine (right_any _ A9 _ t9 c9 Y4.out.2.2.2 Y4.out.2.2.1 (by have := len_big Y4.out.1.fit.ok (by have := Y4.out.1.p1; omega) Y4.out.1.p2; have := Y4.out.2.2.2; omega) P (by have := Y4.out.1.p2; omega)).mono ?_
              rintro e y5 ⟨rfl, q5⟩
              rw [OKB.out]
              have Y5 := Lib.hid (And.intro (Y4.out.1.below q5) (Y4.out.2.1.below q5))
              clear q5
              go_wp2_with fail
              go_roundw
              case rel => exact ⟨k + 1, _, _, m1, _, by omega, by go_num, rfl, Y5.out.1, Y5.out.2, H1.out.2.2, by rw [HM1.out, TT.out]⟩
              case measure => simp [intOf]; omega
        · have e2 : tkL l n = l := by rw [tkL, hb]; rfl
          have e3 : tkT l n T = T := by rw [tkT, hb]; rfl
          have e4 : ¬ (tkE l n = 0) := by
            rw [tkE, hb]
            by_cases hn : n < 1
            · rw [if_pos hn]; omega
            · rw [if_neg hn]; simp
          rw [e2, e3] at h4
          obtain ⟨te, hte⟩ : ∃ te, te = tkE l n := ⟨_, rfl⟩
          rw [← hte] at e4 ⊢
          have e5 : (te == 0) = false := by simp [e4]
          obtain ⟨tp, htp⟩ : ∃ tp, tp = takeP l n := ⟨_, rfl⟩
          rw [← htp]
          have H4 := Lib.hid (And.intro h4 (HB.out.1.grown g4 HTG.out.1))
          clear hb e2 e3 h4 g4 hte htp
          go_wp2_with fail
          go_loopw [8, 13] (fun v8 v10 wr => v10 = .int .i64 0 ∧ v8 = .int .i64 m ∧ Std w wr g P l T (k + 1) ∧ BArr wr t f) (fun v8 v10 _ => 0)
          case atStart => exact ⟨rfl, rfl, H4.out.1, H4.out.2⟩
          case round =>
            obtain ⟨rfl, rfl, hsi, hbi⟩ := hrel
            have H1 := Lib.hid (show Std w wr g P l T (k + 1) ∧ BArr wr t f ∧ Mk P l f from ⟨hsi, hbi, HB.out.2.1⟩)
            have e2 := (HK.out _ hsi.bel).2
            obtain ⟨tt, htt⟩ : ∃ tt, tt = M.total l := ⟨_, rfl⟩
            have TT := Lib.hid htt.symm
            obtain ⟨m1, hm1⟩ : ∃ m1, m1 = m := ⟨_, rfl⟩
            have HM1 := Lib.hid (show m1 = P - tt by rw [hm1, htt]; exact HB.out.2.2)
            rw [← hm1]
            clear hm1 htt hsi hbi
            by_cases hn0 : 0 < n
            · skip
              have hmm1 := HM1.out
              have htn := M.total_nonneg H1.out.1.fit.ok
              have htl := M.total_le H1.out.1.fit.ok (by have := H1.out.1.p1; omega)
              rw [TT.out] at htn htl
              have hp1 := H1.out.1.p1
              have hp2 := H1.out.1.p2
              have HWS := Lib.hid (show wrap64 (P - m1) = tt by unfold wrap64; omega)
              have OKB := Lib.hid ((M.okB_iff _ _ _).2 H1.out.1.fit.ok)
              clear hmm1 htn htl hp1 hp2
              go_wp2_with fail
              refine (s_free H1.out.1).mono ?_
              rintro e y1 ⟨rfl, q1⟩
              have Y1 := Lib.hid (And.intro (H1.out.1.below q1) (H1.out.2.1.below q1))
              clear q1
              rw [TT.out]
              have hws := HWS.out
              go_wp2_with fail
              refine (s_pages Y1.out.1).mono ?_
              rintro e y2 ⟨rfl, q2⟩
              have Y2 := Lib.hid (And.intro (Y1.out.1.below q2) (Y1.out.2.below q2))
              clear q2
              go_wp2_with fail
              clear hws
              refine (s_runs Y2.out.1).mono ?_
              rintro e y3 ⟨A9, t9, c9, rfl, ht9, r9, q3⟩
              have Y3 := Lib.hid (And.intro (Y2.out.1.below q3) (And.intro (Y2.out.2.below q3) (And.intro r9 ht9)))
              clear q3 r9 ht9
              go_wp2_with fail
              refine (s_pages Y3.out.1).mono ?_
              rintro e y4 ⟨rfl, q4⟩
              have Y4 := Lib.hid (And.intro (Y3.out.1.below q4) (And.intro (Y3.out.2.1.below q4) (And.intro (Y3.out.2.2.1.below q4) Y3.out.2.2.2)))
              clear q4
              go_wp2_with fail
              refine (right_any _ A9 _ t9 c9 Y4.out.2.2.2 Y4.out.2.2.1 (by have := len_big Y4.out.1.fit.ok (by have := Y4.out.1.p1; omega) Y4.out.1.p2; have := Y4.out.2.2.2; omega) P (by have := Y4.out.1.p2; omega)).mono ?_
              rintro e y5 ⟨rfl, q5⟩
              rw [OKB.out]
              have Y5 := Lib.hid (And.intro (Y4.out.1.below q5) (Y4.out.2.1.below q5))
              clear q5
              go_wp2_with fail
              go_roundw
              case rel => exact ⟨k + 1, _, _, m1, _, by omega, by go_num, rfl, Y5.out.1, Y5.out.2, H1.out.2.2, by rw [HM1.out, TT.out]⟩
              case measure => simp [intOf]; omega
            · skip
              have hmm1 := HM1.out
              have htn := M.total_nonneg H1.out.1.fit.ok
              have htl := M.total_le H1.out.1.fit.ok (by have := H1.out.1.p1; omega)
              rw [TT.out] at htn htl
              have hp1 := H1.out.1.p1
              have hp2 := H1.out.1.p2
              have HWS := Lib.hid (show wrap64 (P - m1) = tt by unfold wrap64; omega)
              have OKB := Lib.hid ((M.okB_iff _ _ _).2 H1.out.1.fit.ok)
              clear hmm1 htn htl hp1 hp2
              go_wp2_with fail
              refine (s_free H1.out.1).mono ?_
              rintro e y1 ⟨rfl, q1⟩
              have Y1 := Lib.hid (And.intro (H1.out.1.below q1) (H1.out.2.1.below q1))
              clear q1
              rw [TT.out]
              have hws := HWS.out
              go_wp2_with fail
              refine (s_pages Y1.out.1).mono ?_
              rintro e y2 ⟨rfl, q2⟩
              have Y2 := Lib.hid (And.intro (Y1.out.1.below q2) (Y1.out.2.below q2))
              clear q2
              go_wp2_with fail
              clear hws
              refine (s_runs Y2.out.1).mono ?_
              rintro e y3 ⟨A9, t9, c9, rfl, ht9, r9, q3⟩
              have Y3 := Lib.hid (And.intro (Y2.out.1.below q3) (And.intro (Y2.out.2.below q3) (And.intro r9 ht9)))
              clear q3 r9 ht9
              go_wp2_with fail
              refine (s_pages Y3.out.1).mono ?_
              rintro e y4 ⟨rfl, q4⟩
              have Y4 := Lib.hid (And.intro (Y3.out.1.below q4) (And.intro (Y3.out.2.1.below q4) (And.intro (Y3.out.2.2.1.below q4) Y3.out.2.2.2)))
              clear q4
              go_wp2_with fail
              refine (right_any _ A9 _ t9 c9 Y4.out.2.2.2 Y4.out.2.2.1 (by have := len_big Y4.out.1.fit.ok (by have := Y4.out.1.p1; omega) Y4.out.1.p2; have := Y4.out.2.2.2; omega) P (by have := Y4.out.1.p2; omega)).mono ?_
              rintro e y5 ⟨rfl, q5⟩
              rw [OKB.out]
              have Y5 := Lib.hid (And.intro (Y4.out.1.below q5) (Y4.out.2.1.below q5))
              clear q5
              go_wp2_with fail
              go_roundw
              case rel => exact ⟨k + 1, _, _, m1, _, by omega, by go_num, rfl, Y5.out.1, Y5.out.2, H1.out.2.2, by rw [HM1.out, TT.out]⟩
              case measure => simp [intOf]; omega
    · go_wp2_with fail
      go_ret
      exact ⟨rfl, HS.out.bel⟩

/-! The row's step. -/
set_option maxRecDepth 100000 in
theorem lifted (os : Os) (started : os.Started) (H : Type) (enc : TypeId × Value → H) :
    ReturnsInHanded {} Try.checked os 4 .any (Rows.pagerunOnceSpec.pre6 enc Try.prog Try.f4 Rows.pagerunOnceRow.domain false) (Rows.pagerunOnceSpec.post enc Try.prog Try.f4 false true false false) := by
  refine returnsInHanded_of_change (C := Try.checked) own started (by kernel_rfl) Try.func4
    (ChangeSpec.witness6 (enc := enc) (C := Try.checked) false ⟨#[], #[.int .u8 0, .slice none 0 0], []⟩ 8 (by kernel_rfl) (by kernel_rfl) (by kernel_rfl) (by kernel_rfl)) ?_
  intro W base args ds gs before hval0 hW hcnd _
  have hval : ∀ (j : Nat) t v, Try.f4.params[j]? = some t → args[j]? = some v → Value.okWide Try.prog W .any base t v := hval0
  have hW' := hW
  obtain ⟨p, q, hA0, hV, rfl, hfz, hnd⟩ := hW
  have hA : DataW.TrodAll enc Try.prog W 0 (fun _ => true) true Try.f4.params.toList args.toList ds p := hA0
  rw [Try.params4] at hA hval
  obtain ⟨v0, vs0, d0, ds0, p0, q0, hargs, rfl, rfl, h0, r0⟩ := trodAll_cons hA
  obtain ⟨v1, vs1, d1, ds1, p1, q1, rfl, rfl, rfl, h1, r1⟩ := trodAll_cons r0
  obtain ⟨rfl, rfl, rfl⟩ := trodAll_nil r1
  obtain rfl : args = #[v0, v1] := by cases args; simp_all
  obtain ⟨rfl, rfl⟩ := trodVars_none hV
  obtain ⟨a0, rfl, rfl, rfl, w0⟩ := open_int Try.underlying5 (hval 0 5 v0 rfl rfl) h0
  obtain ⟨a1, len1, cap1, rfl⟩ := okWide_slice Try.underlying22 (hval 1 22 v1 rfl rfl)
  have k1 := h1
  have lt1 : ∀ x ∈ p1, x.block < W.heap.size := by obtain ⟨m, hm⟩ := k1; exact DataW.trod_lt m _ _ _ hm
  have w1 : IsActs W a1 len1 := by
    obtain ⟨fuel, hf⟩ := h1
    obtain ⟨A, l, c, hcs, hw⟩ := acts_open hf
    simp [Value.cells] at hcs
    obtain ⟨rfl, rfl, rfl⟩ := hcs
    exact hw
  clear hA0 hval0
  refine (walk a0 a1 len1 cap1 W w0 w1).mono fun e W' ⟨he, bel⟩ => ?_
  subst he
  exact ⟨_, rfl, _, _, _, [], _, [], hW', trodAll_mk1 (shut_bool Try.underlying4 _), (trodAll_cons_mk (shut_int Try.underlying5 w0) (trodAll_cons_mk (Below.trod laidOut (by kernel_rfl) (of_decide_eq_true (by kernel_rfl)) k1 bel lt1) trodAll_mk0)), rfl, bel.frame _, fun h => by cases h⟩

theorem over : Rows.pagerunOnceRow.holds Try.pinned (OpenSpec.ofChange Rows.pagerunOnceSpec) :=
  OpenClaim.holds_of_wide 4 Try.f4 rfl rfl rfl rfl rfl rfl rfl ⟨rfl, rfl, rfl, rfl, rfl⟩ rfl rfl rfl rfl rfl (by kernel_rfl) Try.func4 (by kernel_rfl)
    (of_decide_eq_true (by kernel_rfl)) (by unfold Func.isWrapper; first | (rw [if_pos (by decide +kernel)]; kernel_rfl) | (rw [if_neg (by decide +kernel)]; exact ⟨rfl, rfl⟩))
    (fun os started H enc _ => lifted os started H enc)

/-- The statement. -/
theorem proved : Rows.PagerunOnceSaid := over
#print axioms proved
end Go.Proofs.Ytloiomfbmabfbaa.pagerunOnce
