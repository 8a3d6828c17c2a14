/-
  BumpOf: the cursor of any chunk, and how many bytes are left of any one, are the document's; for every input the law returns true, and the arguments read behind the call as they read before. No condition.
-/
import Derived.Test.YtmmcdnoedilefaaRows
import Derived.WalkKit
import Derived.ProofKit
import Derived.OpenShut
import Derived.ShutString
import Derived.ChangeOld
import Derived.Below
import Derived.Test.YtmmcdnoedilefaaA11
import Derived.Test.YtmmcdnoedilefaaRF11
namespace Go.Proofs.Ytmmcdnoedilefaa.bumpOf
open Go.ChangeShapes Go.WideShapes Go.ChangeAt Go.RowKit
set_option linter.unusedVariables false

theorem own : ownKnob Try.prog.godebug = none := by kernel_rfl

theorem core (p n : Int) (t e : Nat) (hp : -9223372036854775808 ≤ p) (hp' : p ≤ 9223372036854775807) (hn : -9223372036854775808 ≤ n) (hn' : n ≤ 9223372036854775807) (ht : t < 18446744073709551616) (he : e < 18446744073709551616) (w : World) :
    Calls Try.prog 4 #[.int .i64 p, .int .i64 n, .int .u64 t, .int .u64 e] w fun e w' => e = .returned (.bool true) ∧ Below w.heap.size w w' := by
  obtain ⟨A, hA⟩ : ∃ A, M.ofA p n = A := ⟨_, rfl⟩
  obtain ⟨E, hE⟩ : ∃ E, M.ofE p n = E := ⟨_, rfl⟩
  obtain ⟨l, hl⟩ : ∃ l, M.left t e = l := ⟨_, rfl⟩
  have H1 := Lib.hid hA; have H2 := Lib.hid hE; have H3 := Lib.hid hl
  clear hA hE hl
  go_enter Try.func4, Try.ntmps4
  go_wp2_with fail
  refine (awake_any _).mono ?_
  rintro _ w1 ⟨rfl, b1⟩
  go_wp2_with fail
  refine (of_at p n A E rfl rfl hp hp' hn hn' H1.out H2.out _).mono ?_
  rintro _ w2 ⟨rfl, b2⟩
  have X := Box2.new w2 25 (.int .u64 A) (.int .u64 E)
  have B3 := below_call (below_call b1 b2) (below_new2 w2 (.cells #[.int .u64 A, .int .u64 E] 25))
  go_upto_region 5 with fail
  generalize w2.alloc (.cells #[.int .u64 A, .int .u64 E] 25) = w3 at *
  generalize w2.heap.size = g1 at *
  go_wp2_with fail
  refine (rof_at p n A E rfl rfl hp hp' hn hn' H1.out H2.out _).mono ?_
  rintro _ w4 ⟨rfl, b4⟩
  have Y := X.below b4
  have Z := Y.below (below_new2 w4 (.cells #[.int .u64 A, .int .u64 E] 28))
  have U := Box2.new w4 28 (.int .u64 A) (.int .u64 E)
  have HB := Lib.hid (below_call (below_call B3 b4) (below_new2 w4 (.cells #[.int .u64 A, .int .u64 E] 28)))
  clear b1 b2 b4 B3 X Y
  go_upto_region 6 with fail
  generalize w4.alloc (.cells #[.int .u64 A, .int .u64 E] 28) = w5 at *
  generalize w4.heap.size = g4 at *
  have c0 := Z.c0
  have c1 := Z.c1
  have d0 := U.c0
  have d1 := U.c1
  clear Z U
  go_wp2_with fail
  refine (left_at t e l rfl rfl ht he H3.out _).mono ?_
  rintro _ w6 ⟨rfl, b6⟩
  go_wp2_with fail
  refine (rleft_at t e l rfl rfl ht he H3.out _).mono ?_
  rintro _ w7 ⟨rfl, b7⟩
  go_wp2
  go_ret
  exact ⟨retB (by simp), below_call (below_call HB.out b6) b7⟩

/-! The walk. -/
theorem walk (a0 : Int) (a1 : Int) (a2 : Int) (a3 : Int) (w : World) (w0 : (Lit.int .i64 a0).wf = true) (w1 : (Lit.int .i64 a1).wf = true) (w2 : (Lit.int .u64 a2).wf = true) (w3 : (Lit.int .u64 a3).wf = true) :
    Calls Try.prog 4 #[.int .i64 a0, .int .i64 a1, .int .u64 a2, .int .u64 a3] w fun e w' => e = .returned (.bool true) ∧ Below w.heap.size w w' := by
  obtain ⟨hp, hp'⟩ := i64_range w0
  obtain ⟨hn, hn'⟩ := i64_range w1
  obtain ⟨t, ht, rfl⟩ := u64_nat w2
  obtain ⟨e, he, rfl⟩ := u64_nat w3
  exact core _ _ t e hp hp' hn hn' ht he w

/-! The row's step. -/
set_option maxRecDepth 100000 in
theorem lifted (os : Os) (started : os.Started) (H : Type) (enc : TypeId × Value → H) :
    ReturnsInHanded {} Try.checked os 4 .any (Rows.bumpOfSpec.pre6 enc Try.prog Try.f4 Rows.bumpOfRow.domain false) (Rows.bumpOfSpec.post enc Try.prog Try.f4 false true false false) := by
  refine returnsInHanded_of_change (C := Try.checked) own started (by kernel_rfl) Try.func4
    (ChangeSpec.witness6 (enc := enc) (C := Try.checked) false ⟨#[], #[.int .i64 0, .int .i64 0, .int .u64 0, .int .u64 0], []⟩ 8 (by kernel_rfl) (by kernel_rfl) (by kernel_rfl) (by kernel_rfl)) ?_
  intro W base args ds gs before hval0 hW hcnd _
  have hval : ∀ (j : Nat) t v, Try.f4.params[j]? = some t → args[j]? = some v → Value.okWide Try.prog W .any base t v := hval0
  have hW' := hW
  obtain ⟨p, q, hA0, hV, rfl, hfz, hnd⟩ := hW
  have hA : DataW.TrodAll enc Try.prog W 0 (fun _ => true) true Try.f4.params.toList args.toList ds p := hA0
  rw [Try.params4] at hA hval
  obtain ⟨v0, vs0, d0, ds0, p0, q0, hargs, rfl, rfl, h0, r0⟩ := trodAll_cons hA
  obtain ⟨v1, vs1, d1, ds1, p1, q1, rfl, rfl, rfl, h1, r1⟩ := trodAll_cons r0
  obtain ⟨v2, vs2, d2, ds2, p2, q2, rfl, rfl, rfl, h2, r2⟩ := trodAll_cons r1
  obtain ⟨v3, vs3, d3, ds3, p3, q3, rfl, rfl, rfl, h3, r3⟩ := trodAll_cons r2
  obtain ⟨rfl, rfl, rfl⟩ := trodAll_nil r3
  obtain rfl : args = #[v0, v1, v2, v3] := by cases args; simp_all
  obtain ⟨rfl, rfl⟩ := trodVars_none hV
  obtain ⟨a0, rfl, rfl, rfl, w0⟩ := open_int Try.underlying3 (hval 0 3 v0 rfl rfl) h0
  obtain ⟨a1, rfl, rfl, rfl, w1⟩ := open_int Try.underlying3 (hval 1 3 v1 rfl rfl) h1
  obtain ⟨a2, rfl, rfl, rfl, w2⟩ := open_int Try.underlying22 (hval 2 22 v2 rfl rfl) h2
  obtain ⟨a3, rfl, rfl, rfl, w3⟩ := open_int Try.underlying22 (hval 3 22 v3 rfl rfl) h3
  clear hA0 hval0
  refine (walk a0 a1 a2 a3 W w0 w1 w2 w3).mono fun e W' ⟨he, bel⟩ => ?_
  subst he
  exact ⟨_, rfl, _, _, _, [], _, [], hW', trodAll_mk1 (shut_bool Try.underlying4 _), (trodAll_cons_mk (shut_int Try.underlying3 w0) (trodAll_cons_mk (shut_int Try.underlying3 w1) (trodAll_cons_mk (shut_int Try.underlying22 w2) (trodAll_cons_mk (shut_int Try.underlying22 w3) trodAll_mk0)))), rfl, bel.frame _, fun h => by cases h⟩

theorem over : Rows.bumpOfRow.holds Try.pinned (OpenSpec.ofChange Rows.bumpOfSpec) :=
  OpenClaim.holds_of_wide 4 Try.f4 rfl rfl rfl rfl rfl rfl rfl ⟨rfl, rfl, rfl, rfl, rfl⟩ rfl rfl rfl rfl rfl (by kernel_rfl) Try.func4 (by kernel_rfl)
    (of_decide_eq_true (by kernel_rfl)) (by unfold Func.isWrapper; first | (rw [if_pos (by decide +kernel)]; kernel_rfl) | (rw [if_neg (by decide +kernel)]; exact ⟨rfl, rfl⟩))
    (fun os started H enc _ => lifted os started H enc)

/-- The statement. -/
theorem proved : Rows.BumpOfSaid := over
#print axioms proved
end Go.Proofs.Ytmmcdnoedilefaa.bumpOf
