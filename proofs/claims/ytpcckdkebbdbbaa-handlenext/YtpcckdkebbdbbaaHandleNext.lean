/-
  HandleNext: generations come one behind the other, and behind the last one the first; for every input the law returns true, and the arguments read behind the call as they read before. No condition.
-/
import Derived.Test.YtpcckdkebbdbbaaRows
import Derived.WalkKit
import Derived.ProofKit
import Derived.OpenShut
import Derived.ShutString
import Derived.ChangeOld
import Derived.Below
import Derived.Test.YtpcckdkebbdbbaaA12
namespace Go.Proofs.Ytpcckdkebbdbbaa.handleNext
open Go.ChangeShapes Go.WideShapes Go.ChangeAt Go.RowKit
set_option linter.unusedVariables false

theorem own : ownKnob Try.prog.godebug = none := by kernel_rfl

theorem core_last (g x : Nat) (hx : ((g : Int) % 1073741824) = 1073741823) (w : World) :
    Calls Try.prog 6 #[.int .u32 g] w fun e w' => e = .returned (.bool true) ∧ Below w.heap.size w w' := by
  go_enter Try.func6, Try.ntmps6
  go_wp2_with fail
  refine (awake_any _).mono ?_
  rintro _ w1 ⟨rfl, b1⟩
  go_wp2_with fail
  refine (hnext_at 1073741823 0 rfl (by decide) (by decide) (by decide) _).mono ?_
  rintro _ w2 ⟨rfl, rfl⟩
  go_wp2_with fail
  refine (hpack_at 1 0 0 4611686018427387904 rfl rfl rfl (by decide) (by decide) (by decide) _).mono ?_
  rintro _ w2 ⟨rfl, rfl⟩
  go_wp2
  go_ret
  exact ⟨rfl, b1⟩
theorem core_mid (g : Nat) (x : Int) (hx : ((g : Int) % 1073741824) = x) (h0 : 0 ≤ x) (hl : x < 1073741823) (w : World) :
    Calls Try.prog 6 #[.int .u32 g] w fun e w' => e = .returned (.bool true) ∧ Below w.heap.size w w' := by
  obtain ⟨p, hp⟩ : ∃ p : Int, M.hpV 1 0 (x + 1) = p := ⟨_, rfl⟩
  have ep : p = 4611686018427387904 + (x + 1) * 4294967296 := by rw [← hp, M.hpV_yes _ _ _ (by omega)]; omega
  have z1 : (p != 0) = true := by simp; omega
  have z2 : decide (x < 1073741823) = true := decide_eq_true (by omega)
  have z3 : (x == 1073741823) = false := by simp; omega
  have z4 : (x + 1 == 0) = false := by simp; omega
  have en : M.hnV x = x + 1 := M.hnV_yes _ (by omega)
  have H1 := Lib.hid hp; have H2 := Lib.hid en; have l1 : (-9223372036854775808 : Int) ≤ x := by omega
  have l2 : x ≤ 9223372036854775807 := by omega
  have L1 := Lib.hid l1; have L2 := Lib.hid l2
  clear hp ep en l1 l2
  go_enter Try.func6, Try.ntmps6
  go_wp2_with fail
  refine (awake_any _).mono ?_
  rintro _ w1 ⟨rfl, b1⟩
  go_wp2_with fail
  refine (hnext_at x (x + 1) rfl L1.out L2.out H2.out _).mono ?_
  rintro _ w2 ⟨rfl, rfl⟩
  go_wp2_with fail
  refine (hpack_at 1 0 (x + 1) p rfl rfl rfl (by decide) (by decide) H1.out _).mono ?_
  rintro _ w2 ⟨rfl, rfl⟩
  go_wp2
  go_ret
  exact ⟨retB (by simp), b1⟩

/-! The walk. -/
theorem walk (a0 : Int) (w : World) (w0 : (Lit.int .u32 a0).wf = true) :
    Calls Try.prog 6 #[.int .u32 a0] w fun e w' => e = .returned (.bool true) ∧ Below w.heap.size w w' := by
  obtain ⟨g, hg, rfl⟩ := u32_nat w0
  by_cases h : g % 1073741824 = 1073741823
  · exact core_last g 0 (by omega) w
  · exact core_mid g _ rfl (by omega) (by omega) w

/-! The row's step. -/
set_option maxRecDepth 100000 in
theorem lifted (os : Os) (started : os.Started) (H : Type) (enc : TypeId × Value → H) :
    ReturnsInHanded {} Try.checked os 6 .any (Rows.handleNextSpec.pre6 enc Try.prog Try.f6 Rows.handleNextRow.domain false) (Rows.handleNextSpec.post enc Try.prog Try.f6 false true false false) := by
  refine returnsInHanded_of_change (C := Try.checked) own started (by kernel_rfl) Try.func6
    (ChangeSpec.witness6 (enc := enc) (C := Try.checked) false ⟨#[], #[.int .u32 0], []⟩ 8 (by kernel_rfl) (by kernel_rfl) (by kernel_rfl) (by kernel_rfl)) ?_
  intro W base args ds gs before hval0 hW hcnd _
  have hval : ∀ (j : Nat) t v, Try.f6.params[j]? = some t → args[j]? = some v → Value.okWide Try.prog W .any base t v := hval0
  have hW' := hW
  obtain ⟨p, q, hA0, hV, rfl, hfz, hnd⟩ := hW
  have hA : DataW.TrodAll enc Try.prog W 0 (fun _ => true) true Try.f6.params.toList args.toList ds p := hA0
  rw [Try.params6] at hA hval
  obtain ⟨v0, vs0, d0, ds0, p0, q0, hargs, rfl, rfl, h0, r0⟩ := trodAll_cons hA
  obtain ⟨rfl, rfl, rfl⟩ := trodAll_nil r0
  obtain rfl : args = #[v0] := by cases args; simp_all
  obtain ⟨rfl, rfl⟩ := trodVars_none hV
  obtain ⟨a0, rfl, rfl, rfl, w0⟩ := open_int Try.underlying30 (hval 0 30 v0 rfl rfl) h0
  clear hA0 hval0
  refine (walk a0 W w0).mono fun e W' ⟨he, bel⟩ => ?_
  subst he
  exact ⟨_, rfl, _, _, _, [], _, [], hW', trodAll_mk1 (shut_bool Try.underlying4 _), (trodAll_cons_mk (shut_int Try.underlying30 w0) trodAll_mk0), rfl, bel.frame _, fun h => by cases h⟩

theorem over : Rows.handleNextRow.holds Try.pinned (OpenSpec.ofChange Rows.handleNextSpec) :=
  OpenClaim.holds_of_wide 6 Try.f6 rfl rfl rfl rfl rfl rfl rfl ⟨rfl, rfl, rfl, rfl, rfl⟩ rfl rfl rfl rfl rfl (by kernel_rfl) Try.func6 (by kernel_rfl)
    (of_decide_eq_true (by kernel_rfl)) (by unfold Func.isWrapper; first | (rw [if_pos (by decide +kernel)]; kernel_rfl) | (rw [if_neg (by decide +kernel)]; exact ⟨rfl, rfl⟩))
    (fun os started H enc _ => lifted os started H enc)

/-- The statement. -/
theorem proved : Rows.HandleNextSaid := over
#print axioms proved
end Go.Proofs.Ytpcckdkebbdbbaa.handleNext
