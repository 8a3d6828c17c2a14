/-
  RunsTake: how many pages there are, which run is the best one, and what is taken and left, are the document's; for every input the law returns true, and the arguments read behind the call as they read before. No condition.
-/
import Derived.Test.YtbmibggjdilhkaaRows
import Derived.WalkKit
import Derived.ProofKit
import Derived.OpenShut
import Derived.ShutString
import Derived.ChangeOld
import Derived.Below
import Derived.Test.YtbmibggjdilhkaaLaw5
import Derived.Test.YtbmibggjdilhkaaRTk5
namespace Go.Proofs.Ytbmibggjdilhkaa.runsTake
open Go.ChangeShapes Go.WideShapes Go.ChangeAt Go.RowKit
set_option linter.unusedVariables false

theorem own : ownKnob Try.prog.godebug = none := by kernel_rfl

/-! The walk. -/
set_option maxRecDepth 20000 in
set_option maxHeartbeats 4000000 in
theorem walk (a0 : Option Addr) (len0 cap0 : Nat) (a1 : Int) (w : World) (w0 : IsActs w a0 len0) (w1 : (Lit.int .i64 a1).wf = true) :
    Calls Try.prog 4 #[.slice a0 len0 cap0, .int .i64 a1] w fun e w' => e = .returned (.bool true) ∧ Below w.heap.size w w' := by
  clear w1
  obtain ⟨hl0, l, hl, hr⟩ := w0
  have HR := Lib.hid (And.intro hl hr)
  clear hl hr
  go_enter Try.func4, Try.ntmps4
  go_wp2_with fail
  refine (awake_any _).mono ?_
  rintro e w1 ⟨rfl, b1⟩
  have B1 := Lib.hid b1
  clear b1
  go_wp2_with fail
  refine (few_any _ a0 l len0 cap0 HR.out.1 (HR.out.2.below B1.out) hl0).mono ?_
  rintro e w2 ⟨rfl, b2⟩
  have B2 := Lib.hid (below_call B1.out b2)
  clear b2
  obtain ⟨fb, hfb⟩ : ∃ fb, fb = fewB l := ⟨_, rfl⟩
  rw [← hfb]
  cases fb with
  | false =>
    clear hfb
    go_wp2_with fail
    go_ret
    exact ⟨rfl, B2.out⟩
  | true =>
  have hfw := (fewB_iff l).1 hfb.symm
  have HF := Lib.hid hfw
  have hl60 : len0 ≤ 60 := by have := HR.out.1; omega
  clear hfb hfw
  go_wp2_with fail
  refine (take_any w2 a0 l len0 cap0 HR.out.1 (HR.out.2.below B2.out) (by omega) HF.out.2 a1).mono ?_
  rintro e w3 ⟨A3, t3, c3, rfl, ht3, r3, b3, _⟩
  have B3 := Lib.hid (below_call B2.out b3)
  have R3 := Lib.hid (And.intro ht3 r3)
  clear b3 ht3 r3
  go_wp2_with fail
  refine (rtake_any w3 a0 l len0 cap0 HR.out.1 (HR.out.2.below B3.out) (by omega) HF.out.2 a1).mono ?_
  rintro e w4 ⟨A4, t4, c4, rfl, ht4, r4, b4, _⟩
  have B4 := Lib.hid (below_call B3.out b4)
  have R4 := Lib.hid (And.intro ht4 (And.intro r4 (R3.out.2.below b4)))
  clear b4 ht4 r4
  have hlen := takeL_length (l := l) (n := a1)
  have HL := Lib.hid (show t3 ≤ 60 by have := R3.out.1; have := HF.out.1; omega)
  clear hlen
  generalize takeP l a1 = pp
  generalize takeB l a1 = bb
  generalize takeL l a1 = ll at R3 R4
  go_wp2_with fail
  refine (total_any _ a0 l len0 cap0 HR.out.1 (HR.out.2.below B4.out) hl0 HF.out.2).mono ?_
  rintro e w5 ⟨rfl, b5⟩
  have B5 := Lib.hid (below_call B4.out b5)
  have R5 := Lib.hid (And.intro (R4.out.2.1.below b5) (R4.out.2.2.below b5))
  clear b5
  go_wp2_with fail
  refine (rtotal_any _ a0 l len0 cap0 HR.out.1 (HR.out.2.below B5.out) hl0 HF.out.2).mono ?_
  rintro e w6 ⟨rfl, b6⟩
  have B6 := Lib.hid (below_call B5.out b6)
  have R6 := Lib.hid (And.intro (R5.out.1.below b6) (R5.out.2.below b6))
  clear b6
  generalize M.total l = T
  go_wp2_with fail
  refine (best_any _ a0 l len0 cap0 HR.out.1 (HR.out.2.below B6.out) hl0 a1).mono ?_
  rintro e w7 ⟨rfl, b7⟩
  have B7 := Lib.hid (below_call B6.out b7)
  have R7 := Lib.hid (And.intro (R6.out.1.below b7) (R6.out.2.below b7))
  clear b7
  go_wp2_with fail
  refine (rbest_any _ a0 l len0 cap0 HR.out.1 (HR.out.2.below B7.out) (by omega) a1).mono ?_
  rintro e w8 ⟨rfl, b8⟩
  have B8 := Lib.hid (below_call B7.out b8)
  have R8 := Lib.hid (And.intro (R7.out.1.below b8) (R7.out.2.below b8))
  clear b8
  generalize M.best a1 l = bst
  go_wp2_with fail
  refine (same_any _ A3 A4 ll ll t3 c3 t4 c4 R3.out.1 R4.out.1 R8.out.2 R8.out.1 (by have := HL.out; omega)).mono ?_
  rintro e w9 ⟨rfl, b9⟩
  have B9 := Lib.hid (below_call B8.out b9)
  clear b9
  have e9 : decide (ll = ll) = true := by simp
  rw [e9]
  go_wp2_with fail
  go_ret
  exact ⟨rfl, B9.out⟩

/-! The row's step. -/
set_option maxRecDepth 100000 in
theorem lifted (os : Os) (started : os.Started) (H : Type) (enc : TypeId × Value → H) :
    ReturnsInHanded {} Try.checked os 4 .any (Rows.runsTakeSpec.pre6 enc Try.prog Try.f4 Rows.runsTakeRow.domain false) (Rows.runsTakeSpec.post enc Try.prog Try.f4 false true false false) := by
  refine returnsInHanded_of_change (C := Try.checked) own started (by kernel_rfl) Try.func4
    (ChangeSpec.witness6 (enc := enc) (C := Try.checked) false ⟨#[], #[.slice none 0 0, .int .i64 0], []⟩ 8 (by kernel_rfl) (by kernel_rfl) (by kernel_rfl) (by kernel_rfl)) ?_
  intro W base args ds gs before hval0 hW hcnd _
  have hval : ∀ (j : Nat) t v, Try.f4.params[j]? = some t → args[j]? = some v → Value.okWide Try.prog W .any base t v := hval0
  have hW' := hW
  obtain ⟨p, q, hA0, hV, rfl, hfz, hnd⟩ := hW
  have hA : DataW.TrodAll enc Try.prog W 0 (fun _ => true) true Try.f4.params.toList args.toList ds p := hA0
  rw [Try.params4] at hA hval
  obtain ⟨v0, vs0, d0, ds0, p0, q0, hargs, rfl, rfl, h0, r0⟩ := trodAll_cons hA
  obtain ⟨v1, vs1, d1, ds1, p1, q1, rfl, rfl, rfl, h1, r1⟩ := trodAll_cons r0
  obtain ⟨rfl, rfl, rfl⟩ := trodAll_nil r1
  obtain rfl : args = #[v0, v1] := by cases args; simp_all
  obtain ⟨rfl, rfl⟩ := trodVars_none hV
  obtain ⟨a0, len0, cap0, rfl⟩ := okWide_slice Try.underlying22 (hval 0 22 v0 rfl rfl)
  have k0 := h0
  have lt0 : ∀ x ∈ p0, x.block < W.heap.size := by obtain ⟨m, hm⟩ := k0; exact DataW.trod_lt m _ _ _ hm
  have w0 : IsActs W a0 len0 := by
    obtain ⟨fuel, hf⟩ := h0
    obtain ⟨A, l, c, hcs, hw⟩ := acts_open hf
    simp [Value.cells] at hcs
    obtain ⟨rfl, rfl, rfl⟩ := hcs
    exact hw
  obtain ⟨a1, rfl, rfl, rfl, w1⟩ := open_int Try.underlying3 (hval 1 3 v1 rfl rfl) h1
  clear hA0 hval0
  refine (walk a0 len0 cap0 a1 W w0 w1).mono fun e W' ⟨he, bel⟩ => ?_
  subst he
  exact ⟨_, rfl, _, _, _, [], _, [], hW', trodAll_mk1 (shut_bool Try.underlying4 _), (trodAll_cons_mk (Below.trod laidOut (by kernel_rfl) (of_decide_eq_true (by kernel_rfl)) k0 bel lt0) (trodAll_cons_mk (shut_int Try.underlying3 w1) trodAll_mk0)), rfl, bel.frame _, fun h => by cases h⟩

theorem over : Rows.runsTakeRow.holds Try.pinned (OpenSpec.ofChange Rows.runsTakeSpec) :=
  OpenClaim.holds_of_wide 4 Try.f4 rfl rfl rfl rfl rfl rfl rfl ⟨rfl, rfl, rfl, rfl, rfl⟩ rfl rfl rfl rfl rfl (by kernel_rfl) Try.func4 (by kernel_rfl)
    (of_decide_eq_true (by kernel_rfl)) (by unfold Func.isWrapper; first | (rw [if_pos (by decide +kernel)]; kernel_rfl) | (rw [if_neg (by decide +kernel)]; exact ⟨rfl, rfl⟩))
    (fun os started H enc _ => lifted os started H enc)

/-- The statement. -/
theorem proved : Rows.RunsTakeSaid := over
#print axioms proved
end Go.Proofs.Ytbmibggjdilhkaa.runsTake
