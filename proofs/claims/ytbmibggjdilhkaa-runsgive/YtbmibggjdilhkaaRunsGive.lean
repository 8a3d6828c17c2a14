/-
  RunsGive: whether a run has one of any pages, and the runs behind these are given back, are the document's; for every input the law returns true, and the arguments read behind the call as they read before. No condition.
-/
import Derived.Test.YtbmibggjdilhkaaRows
import Derived.WalkKit
import Derived.ProofKit
import Derived.OpenShut
import Derived.ShutString
import Derived.ChangeOld
import Derived.Below
import Derived.Test.YtbmibggjdilhkaaLaw5
import Derived.Test.YtbmibggjdilhkaaRG5
namespace Go.Proofs.Ytbmibggjdilhkaa.runsGive
open Go.ChangeShapes Go.WideShapes Go.ChangeAt Go.RowKit
set_option linter.unusedVariables false

theorem own : ownKnob Try.prog.godebug = none := by kernel_rfl

/-! The walk. -/
set_option maxRecDepth 20000 in
set_option maxHeartbeats 4000000 in
theorem walk (a0 : Option Addr) (len0 cap0 : Nat) (a1 : Int) (a2 : Int) (a3 : Int) (w : World) (w0 : IsActs w a0 len0) (w1 : (Lit.int .i64 a1).wf = true) (w2 : (Lit.int .i64 a2).wf = true) (w3 : (Lit.int .i64 a3).wf = true) :
    Calls Try.prog 5 #[.slice a0 len0 cap0, .int .i64 a1, .int .i64 a2, .int .i64 a3] w fun e w' => e = .returned (.bool true) ∧ Below w.heap.size w w' := by
  have hb1 := i64_range w1
  have hb2 := i64_range w2
  have hb3 := i64_range w3
  clear w1 w2 w3
  obtain ⟨hl0, l, hl, hr⟩ := w0
  have HR := Lib.hid (And.intro hl hr)
  clear hl hr
  go_enter Try.func5, Try.ntmps5
  go_wp2_with fail
  refine (awake_any _).mono ?_
  rintro e w1 ⟨rfl, b1⟩
  have B1 := Lib.hid b1
  clear b1
  go_wp2_with fail
  refine (few_any _ a0 l len0 cap0 HR.out.1 (HR.out.2.below B1.out) hl0).mono ?_
  rintro e w2 ⟨rfl, b2⟩
  have B2 := Lib.hid (below_call B1.out b2)
  clear b2
  obtain ⟨fb, hfb⟩ : ∃ fb, fb = fewB l := ⟨_, rfl⟩
  rw [← hfb]
  cases fb with
  | false =>
    clear hfb
    go_wp2_with fail
    go_ret
    exact ⟨rfl, B2.out⟩
  | true =>
  have hfw := (fewB_iff l).1 hfb.symm
  have HF := Lib.hid hfw
  have hl60 : len0 ≤ 60 := by have := HR.out.1; omega
  clear hfb hfw
  by_cases hbig : 1073741824 < a1
  · go_wp2_with fail
    go_ret
    exact ⟨rfl, B2.out⟩
  have HV := Lib.hid (show (-9223372036854775808 ≤ a1 ∧ a1 ≤ 1073741824) ∧ (-9223372036854775808 ≤ a2 ∧ a2 ≤ 9223372036854775807) ∧ (-9223372036854775808 ≤ a3 ∧ a3 ≤ 9223372036854775807) from ⟨⟨hb1.1, by omega⟩, hb2, hb3⟩)
  clear hb1 hb2 hb3
  go_wp2_with fail
  refine (give_any w2 a0 l len0 cap0 HR.out.1 (HR.out.2.below B2.out) (by omega) HF.out.2 a1 a2 a3 HV.out.1.2 HV.out.2.1.1).mono ?_
  rintro e w3 ⟨A3, t3, c3, rfl, ht3, r3, b3⟩
  have B3 := Lib.hid (below_call B2.out b3)
  have R3 := Lib.hid (And.intro ht3 r3)
  clear b3 ht3 r3
  go_wp2_with fail
  refine (rgive_any w3 a0 l len0 cap0 HR.out.1 (HR.out.2.below B3.out) (by omega) HF.out.2 a1 a2 a3 HV.out.1.2 HV.out.1.1 HV.out.2.1.1 HV.out.2.1.2 HV.out.2.2.1 HV.out.2.2.2).mono ?_
  rintro e w4 ⟨A4, t4, c4, rfl, ht4, r4, b4⟩
  have B4 := Lib.hid (below_call B3.out b4)
  have R4 := Lib.hid (And.intro ht4 (And.intro r4 (R3.out.2.below b4)))
  clear b4 ht4 r4
  have hlen := giveL_length (l := l) (N := a1) (p := a2) (n := a3)
  have HL := Lib.hid (show t3 ≤ 61 by have := R3.out.1; have := HF.out.1; omega)
  clear hlen
  generalize giveB l a1 a2 a3 = bb
  generalize giveL l a1 a2 a3 = ll at R3 R4
  go_wp2_with fail
  refine (has_any _ a0 l len0 cap0 HR.out.1 (HR.out.2.below B4.out) hl0 HF.out.2 a2 a3 HV.out.2.1.1 HV.out.2.1.2 HV.out.2.2.2).mono ?_
  rintro e w5 ⟨rfl, b5⟩
  have B5 := Lib.hid (below_call B4.out b5)
  have R5 := Lib.hid (And.intro (R4.out.2.1.below b5) (R4.out.2.2.below b5))
  clear b5
  go_wp2_with fail
  refine (rhas_any _ a0 l len0 cap0 HR.out.1 (HR.out.2.below B5.out) hl0 HF.out.2 a2 a3 HV.out.2.1.1 HV.out.2.1.2 HV.out.2.2.1 HV.out.2.2.2).mono ?_
  rintro e w6 ⟨rfl, b6⟩
  have B6 := Lib.hid (below_call B5.out b6)
  have R6 := Lib.hid (And.intro (R5.out.1.below b6) (R5.out.2.below b6))
  clear b6
  generalize M.has l a2 a3 = hh
  go_wp2_with fail
  refine (same_any _ A3 A4 ll ll t3 c3 t4 c4 R3.out.1 R4.out.1 R6.out.2 R6.out.1 (by have := HL.out; omega)).mono ?_
  rintro e w7 ⟨rfl, b7⟩
  have B7 := Lib.hid (below_call B6.out b7)
  clear b7
  have e9 : decide (ll = ll) = true := by simp
  rw [e9]
  go_wp2_with fail
  go_ret
  exact ⟨rfl, B7.out⟩

/-! The row's step. -/
set_option maxRecDepth 100000 in
theorem lifted (os : Os) (started : os.Started) (H : Type) (enc : TypeId × Value → H) :
    ReturnsInHanded {} Try.checked os 5 .any (Rows.runsGiveSpec.pre6 enc Try.prog Try.f5 Rows.runsGiveRow.domain false) (Rows.runsGiveSpec.post enc Try.prog Try.f5 false true false false) := by
  refine returnsInHanded_of_change (C := Try.checked) own started (by kernel_rfl) Try.func5
    (ChangeSpec.witness6 (enc := enc) (C := Try.checked) false ⟨#[], #[.slice none 0 0, .int .i64 0, .int .i64 0, .int .i64 0], []⟩ 8 (by kernel_rfl) (by kernel_rfl) (by kernel_rfl) (by kernel_rfl)) ?_
  intro W base args ds gs before hval0 hW hcnd _
  have hval : ∀ (j : Nat) t v, Try.f5.params[j]? = some t → args[j]? = some v → Value.okWide Try.prog W .any base t v := hval0
  have hW' := hW
  obtain ⟨p, q, hA0, hV, rfl, hfz, hnd⟩ := hW
  have hA : DataW.TrodAll enc Try.prog W 0 (fun _ => true) true Try.f5.params.toList args.toList ds p := hA0
  rw [Try.params5] at hA hval
  obtain ⟨v0, vs0, d0, ds0, p0, q0, hargs, rfl, rfl, h0, r0⟩ := trodAll_cons hA
  obtain ⟨v1, vs1, d1, ds1, p1, q1, rfl, rfl, rfl, h1, r1⟩ := trodAll_cons r0
  obtain ⟨v2, vs2, d2, ds2, p2, q2, rfl, rfl, rfl, h2, r2⟩ := trodAll_cons r1
  obtain ⟨v3, vs3, d3, ds3, p3, q3, rfl, rfl, rfl, h3, r3⟩ := trodAll_cons r2
  obtain ⟨rfl, rfl, rfl⟩ := trodAll_nil r3
  obtain rfl : args = #[v0, v1, v2, v3] := by cases args; simp_all
  obtain ⟨rfl, rfl⟩ := trodVars_none hV
  obtain ⟨a0, len0, cap0, rfl⟩ := okWide_slice Try.underlying22 (hval 0 22 v0 rfl rfl)
  have k0 := h0
  have lt0 : ∀ x ∈ p0, x.block < W.heap.size := by obtain ⟨m, hm⟩ := k0; exact DataW.trod_lt m _ _ _ hm
  have w0 : IsActs W a0 len0 := by
    obtain ⟨fuel, hf⟩ := h0
    obtain ⟨A, l, c, hcs, hw⟩ := acts_open hf
    simp [Value.cells] at hcs
    obtain ⟨rfl, rfl, rfl⟩ := hcs
    exact hw
  obtain ⟨a1, rfl, rfl, rfl, w1⟩ := open_int Try.underlying3 (hval 1 3 v1 rfl rfl) h1
  obtain ⟨a2, rfl, rfl, rfl, w2⟩ := open_int Try.underlying3 (hval 2 3 v2 rfl rfl) h2
  obtain ⟨a3, rfl, rfl, rfl, w3⟩ := open_int Try.underlying3 (hval 3 3 v3 rfl rfl) h3
  clear hA0 hval0
  refine (walk a0 len0 cap0 a1 a2 a3 W w0 w1 w2 w3).mono fun e W' ⟨he, bel⟩ => ?_
  subst he
  exact ⟨_, rfl, _, _, _, [], _, [], hW', trodAll_mk1 (shut_bool Try.underlying4 _), (trodAll_cons_mk (Below.trod laidOut (by kernel_rfl) (of_decide_eq_true (by kernel_rfl)) k0 bel lt0) (trodAll_cons_mk (shut_int Try.underlying3 w1) (trodAll_cons_mk (shut_int Try.underlying3 w2) (trodAll_cons_mk (shut_int Try.underlying3 w3) trodAll_mk0)))), rfl, bel.frame _, fun h => by cases h⟩

theorem over : Rows.runsGiveRow.holds Try.pinned (OpenSpec.ofChange Rows.runsGiveSpec) :=
  OpenClaim.holds_of_wide 5 Try.f5 rfl rfl rfl rfl rfl rfl rfl ⟨rfl, rfl, rfl, rfl, rfl⟩ rfl rfl rfl rfl rfl (by kernel_rfl) Try.func5 (by kernel_rfl)
    (of_decide_eq_true (by kernel_rfl)) (by unfold Func.isWrapper; first | (rw [if_pos (by decide +kernel)]; kernel_rfl) | (rw [if_neg (by decide +kernel)]; exact ⟨rfl, rfl⟩))
    (fun os started H enc _ => lifted os started H enc)

/-- The statement. -/
theorem proved : Rows.RunsGiveSaid := over
#print axioms proved
end Go.Proofs.Ytbmibggjdilhkaa.runsGive
