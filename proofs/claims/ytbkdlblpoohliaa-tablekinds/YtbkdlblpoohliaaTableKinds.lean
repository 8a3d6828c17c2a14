/-
  TableKinds: a handle of another kind, of a slot that never was, or of another generation, is of nothing; for every input the law returns true, and the arguments read behind the call as they read before. No condition.
-/
import Derived.Test.YtbkdlblpoohliaaRows
import Derived.WalkKit
import Derived.ProofKit
import Derived.OpenShut
import Derived.ShutString
import Derived.ChangeOld
import Derived.Below
import Derived.Test.YtbkdlblpoohliaaK13
namespace Go.Proofs.Ytbkdlblpoohliaa.tableKinds
open Go.ChangeShapes Go.WideShapes Go.ChangeAt Go.RowKit
set_option linter.unusedVariables false

theorem own : ownKnob Try.prog.godebug = none := by kernel_rfl

open T13 TI
set_option maxHeartbeats 4000000 in
theorem core (kind s gen n : Nat) (a m g : Int) (hs : s < 4294967296) (ha : (kind : Int) % 3 = a) (ha0 : 0 ≤ a) (ha3 : a < 3) (hm : (n : Int) % 9 = m) (hm0 : 0 ≤ m) (hm9 : m < 9) (hg : (gen : Int) % 1073741824 = g) (hg0 : 0 ≤ g) (hg1 : g < 1073741824) (w : World) :
    Calls Try.prog 6 #[.int .u8 kind, .int .u32 s, .int .u32 gen, .int .u8 n] w fun e w' => e = .returned (.bool true) ∧ Below w.heap.size w w' := by
  have k2 := Lib.hid (show M.kOk 2 by decide)
  obtain ⟨p, hp, hp64, hpb, hpk, hps, hpg⟩ := M.hpV_parts (K := a + 1) (s := (s : Int)) (g := g) ⟨by omega, by omega, by omega, by omega, by omega, by omega⟩
  have HP := Lib.hid hp
  have HPP := Lib.hid (show M.huB p = true ∧ (M.huK p : Int) = a + 1 ∧ M.huS p = s ∧ (M.huG p : Int) = g from ⟨hpb, hpk, by omega, hpg⟩)
  clear hp hpb hpk hps hpg
  go_enter Try.func6, Try.ntmps6
  go_wp2_with fail
  refine (awake_any _).mono ?_
  rintro _ w1 ⟨rfl, b1⟩
  have B1 := Lib.hid b1
  clear b1
  go_wp2_with fail
  refine (s_new B1.out 2).mono ?_
  rintro _ w2 ⟨t, rfl, h2, _, _⟩
  rw [← M.fresh_zero] at h2
  have H2 := Lib.hid h2
  clear h2
  go_wp2_with fail
  go_loopw [11] (fun i wr => ∃ (j : Nat) (Q : Nat → Prop), (j : Int) ≤ m ∧ i = .int .i64 (j : Int) ∧ Hid (Std w wr t 2 (M.fresh j) Q j)) (fun i _ => m.toNat - (intOf i).toNat)
  case atStart => exact ⟨0, _, by omega, rfl, H2⟩
  case round =>
    obtain ⟨j, Q, hj, rfl, HS⟩ := hrel
    clear H2
    by_cases hlt : (j : Int) < m
    · have d1 : decide ((j : Int) < m) = true := decide_eq_true hlt
      go_wp2_with fail
      refine (s_add HS.out (by omega) (j : Int) k2.out).mono ?_
      rintro _ w3 ⟨rfl, h3, _⟩
      rw [M.fresh_put] at h3
      have H3 := Lib.hid h3
      clear h3
      go_wp2_with fail
      go_roundw
      case rel => exact ⟨j + 1, _, by omega, by go_num, H3⟩
      case measure => simp [intOf]; omega
    · have d1 : decide ((j : Int) < m) = false := decide_eq_false hlt
      have hjm : (j : Int) = m := by omega
      have HJ := Lib.hid hjm
      clear hjm
      go_wp2_with fail
      refine (hpack_at (a + 1) (s : Int) g (p : Int) (by omega) rfl rfl (by omega) (by omega) HP.out _).mono ?_
      rintro _ _ ⟨rfl, rfl⟩
      go_wp2_with fail
      by_cases hw : a = 1 ∧ (s : Int) < m ∧ g = 0
      · obtain ⟨rfl, hsm, rfl⟩ := hw
        have ey := M.fresh_yes (m := j) (p := p) HPP.out.1 ⟨by have := HPP.out.2.1; omega, by have := HPP.out.2.2.1; have := HJ.out; omega, by have := HPP.out.2.2.2; omega⟩
        rw [HPP.out.2.2.1] at ey
        refine (s_get HS.out p hp64).mono ?_
        rintro _ w3 ⟨rfl, b3⟩
        rw [ey.1, ey.2]
        have BB := Lib.hid (below_call HS.out.bel b3)
        have z1 : decide ((s : Int) < m) = true := decide_eq_true hsm
        clear b3 ey
        go_wp2_with fail
        go_ret
        exact ⟨retB (by simp), BB.out⟩
      · have en := M.fresh_no (m := j) (p := p) HPP.out.1 (fun e => hw ⟨by have := HPP.out.2.1; omega, by have := HPP.out.2.2.1; have := HJ.out; omega, by have := HPP.out.2.2.2; omega⟩)
        have eg : (M.fresh j).get 2 p = none := by unfold M.Tt.get; rw [en]
        refine (s_get HS.out p hp64).mono ?_
        rintro _ w3 ⟨rfl, b3⟩
        rw [en, eg]
        have H3 := Lib.hid (HS.out.below b3)
        have EN := Lib.hid en
        clear b3 en eg
        have fin : ∀ x : Act, True := fun _ => trivial
        by_cases hw1 : a = 1
        · subst hw1
          by_cases hw2 : (s : Int) < m
          · have z2 : decide ((s : Int) < m) = true := decide_eq_true hw2
            have z3 : (g == 0) = false := by
              have : g ≠ 0 := fun e => hw ⟨rfl, hw2, e⟩
              simpa using this
            clear hw
            go_wp2_with fail
            refine (s_set H3.out p hp64 1).mono ?_
            rintro _ w4 ⟨rfl, h4, _⟩
            rw [EN.out]
            rw [show (M.fresh j).setH 2 p 1 = M.fresh j by unfold M.Tt.setH; rw [EN.out]] at h4
            have H4 := Lib.hid h4
            clear h4
            go_wp2_with fail
            refine (s_drop H4.out (by omega) p hp64).mono ?_
            rintro _ w5 ⟨rfl, h5, _⟩
            rw [EN.out]
            have BB := Lib.hid h5.bel
            clear h5
            go_wp2_with fail
            go_ret
            exact ⟨rfl, BB.out⟩
          · have z2 : decide ((s : Int) < m) = false := decide_eq_false hw2
            clear hw
            go_wp2_with fail
            refine (s_set H3.out p hp64 1).mono ?_
            rintro _ w4 ⟨rfl, h4, _⟩
            rw [EN.out]
            rw [show (M.fresh j).setH 2 p 1 = M.fresh j by unfold M.Tt.setH; rw [EN.out]] at h4
            have H4 := Lib.hid h4
            clear h4
            go_wp2_with fail
            refine (s_drop H4.out (by omega) p hp64).mono ?_
            rintro _ w5 ⟨rfl, h5, _⟩
            rw [EN.out]
            have BB := Lib.hid h5.bel
            clear h5
            go_wp2_with fail
            go_ret
            exact ⟨rfl, BB.out⟩
        · have z1 : (a + 1 == 2) = false := by
            have : a + 1 ≠ 2 := by omega
            simpa using this
          clear hw
          go_wp2_with fail
          refine (s_set H3.out p hp64 1).mono ?_
          rintro _ w4 ⟨rfl, h4, _⟩
          rw [EN.out]
          rw [show (M.fresh j).setH 2 p 1 = M.fresh j by unfold M.Tt.setH; rw [EN.out]] at h4
          have H4 := Lib.hid h4
          clear h4
          go_wp2_with fail
          refine (s_drop H4.out (by omega) p hp64).mono ?_
          rintro _ w5 ⟨rfl, h5, _⟩
          rw [EN.out]
          have BB := Lib.hid h5.bel
          clear h5
          go_wp2_with fail
          go_ret
          exact ⟨rfl, BB.out⟩

/-! The walk. -/
theorem walk (a0 : Int) (a1 : Int) (a2 : Int) (a3 : Int) (w : World) (w0 : (Lit.int .u8 a0).wf = true) (w1 : (Lit.int .u32 a1).wf = true) (w2 : (Lit.int .u32 a2).wf = true) (w3 : (Lit.int .u8 a3).wf = true) :
    Calls Try.prog 6 #[.int .u8 a0, .int .u32 a1, .int .u32 a2, .int .u8 a3] w fun e w' => e = .returned (.bool true) ∧ Below w.heap.size w w' := by
  obtain ⟨k, hk, rfl⟩ := u8_nat w0
  obtain ⟨s, hs, rfl⟩ := u32_nat w1
  obtain ⟨g, hg, rfl⟩ := u32_nat w2
  obtain ⟨n, hn, rfl⟩ := u8_nat w3
  exact core k s g n _ _ _ hs rfl (by omega) (by omega) rfl (by omega) (by omega) rfl (by omega) (by omega) w

/-! The row's step. -/
set_option maxRecDepth 100000 in
theorem lifted (os : Os) (started : os.Started) (H : Type) (enc : TypeId × Value → H) :
    ReturnsInHanded {} Try.checked os 6 .any (Rows.tableKindsSpec.pre6 enc Try.prog Try.f6 Rows.tableKindsRow.domain false) (Rows.tableKindsSpec.post enc Try.prog Try.f6 false true false false) := by
  refine returnsInHanded_of_change (C := Try.checked) own started (by kernel_rfl) Try.func6
    (ChangeSpec.witness6 (enc := enc) (C := Try.checked) false ⟨#[], #[.int .u8 0, .int .u32 0, .int .u32 0, .int .u8 0], []⟩ 8 (by kernel_rfl) (by kernel_rfl) (by kernel_rfl) (by kernel_rfl)) ?_
  intro W base args ds gs before hval0 hW hcnd _
  have hval : ∀ (j : Nat) t v, Try.f6.params[j]? = some t → args[j]? = some v → Value.okWide Try.prog W .any base t v := hval0
  have hW' := hW
  obtain ⟨p, q, hA0, hV, rfl, hfz, hnd⟩ := hW
  have hA : DataW.TrodAll enc Try.prog W 0 (fun _ => true) true Try.f6.params.toList args.toList ds p := hA0
  rw [Try.params6] at hA hval
  obtain ⟨v0, vs0, d0, ds0, p0, q0, hargs, rfl, rfl, h0, r0⟩ := trodAll_cons hA
  obtain ⟨v1, vs1, d1, ds1, p1, q1, rfl, rfl, rfl, h1, r1⟩ := trodAll_cons r0
  obtain ⟨v2, vs2, d2, ds2, p2, q2, rfl, rfl, rfl, h2, r2⟩ := trodAll_cons r1
  obtain ⟨v3, vs3, d3, ds3, p3, q3, rfl, rfl, rfl, h3, r3⟩ := trodAll_cons r2
  obtain ⟨rfl, rfl, rfl⟩ := trodAll_nil r3
  obtain rfl : args = #[v0, v1, v2, v3] := by cases args; simp_all
  obtain ⟨rfl, rfl⟩ := trodVars_none hV
  obtain ⟨a0, rfl, rfl, rfl, w0⟩ := open_int Try.underlying5 (hval 0 5 v0 rfl rfl) h0
  obtain ⟨a1, rfl, rfl, rfl, w1⟩ := open_int Try.underlying63 (hval 1 63 v1 rfl rfl) h1
  obtain ⟨a2, rfl, rfl, rfl, w2⟩ := open_int Try.underlying63 (hval 2 63 v2 rfl rfl) h2
  obtain ⟨a3, rfl, rfl, rfl, w3⟩ := open_int Try.underlying5 (hval 3 5 v3 rfl rfl) h3
  clear hA0 hval0
  refine (walk a0 a1 a2 a3 W w0 w1 w2 w3).mono fun e W' ⟨he, bel⟩ => ?_
  subst he
  exact ⟨_, rfl, _, _, _, [], _, [], hW', trodAll_mk1 (shut_bool Try.underlying4 _), (trodAll_cons_mk (shut_int Try.underlying5 w0) (trodAll_cons_mk (shut_int Try.underlying63 w1) (trodAll_cons_mk (shut_int Try.underlying63 w2) (trodAll_cons_mk (shut_int Try.underlying5 w3) trodAll_mk0)))), rfl, bel.frame _, fun h => by cases h⟩

theorem over : Rows.tableKindsRow.holds Try.pinned (OpenSpec.ofChange Rows.tableKindsSpec) :=
  OpenClaim.holds_of_wide 6 Try.f6 rfl rfl rfl rfl rfl rfl rfl ⟨rfl, rfl, rfl, rfl, rfl⟩ rfl rfl rfl rfl rfl (by kernel_rfl) Try.func6 (by kernel_rfl)
    (of_decide_eq_true (by kernel_rfl)) (by unfold Func.isWrapper; first | (rw [if_pos (by decide +kernel)]; kernel_rfl) | (rw [if_neg (by decide +kernel)]; exact ⟨rfl, rfl⟩))
    (fun os started H enc _ => lifted os started H enc)

/-- The statement. -/
theorem proved : Rows.TableKindsSaid := over
#print axioms proved
end Go.Proofs.Ytbkdlblpoohliaa.tableKinds
