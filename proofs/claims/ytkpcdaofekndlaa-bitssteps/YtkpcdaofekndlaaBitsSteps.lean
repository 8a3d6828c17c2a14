/-
  Proved: for every uint32 n and d and uint8 k, the statement BitsSteps returns true, and its arguments read as before. No condition beyond those of the statement.
-/
import Derived.Test.YtkpcdaofekndlaaRows
import Derived.WalkKit
import Derived.ProofKit
import Derived.OpenShut
import Derived.Test.YtkpcdaofekndlaaAt
namespace Go.Proofs.Ytkpcdaofekndlaa.bitsSteps
open Go.ChangeShapes Go.WideShapes Go.ChangeAt Go.RowKit
set_option linter.unusedVariables false

theorem own : ownKnob Try.prog.godebug = none := by kernel_rfl

theorem core (n k d a x : Nat) (hn : n < 4294967296) (hk : k < 256) (hd : d < 4294967296)
    (ea : IntKind.u64.wrap (2 ^ (k % 32)) = a) (la : a < 4294967296) (a0 : 0 < a) (hx : x < 8589934592) (hda : d % a < a)
    (X : Hid (M.upV n a = x ∧ M.upB n a = true)) (Y : Hid (M.upV (x + 1) a = x + a ∧ M.upB (x + 1) a = true))
    (Z : Hid (M.upV (x + (1 + d % a)) a = x + a ∧ M.upB (x + (1 + d % a)) a = true)) (w : World) :
    Calls Try.prog 9 #[.int .u32 n, .int .u8 k, .int .u32 d] w fun e w' => e = .returned (.bool true) ∧ Grown w w' := by
  have ha' : ((a : Int) == 0) = false := by simp; omega
  have em : (d : Int) % (a : Int) = ((d % a : Nat) : Int) := by simp
  generalize d % a = r at em hda Z
  go_enter Try.func9, Try.ntmps9
  go_wp2_with fail
  refine (awake_any _).mono ?_
  rintro e w1 ⟨rfl, g1⟩
  have G1 := Lib.hid g1; clear g1
  go_wp2_with fail
  refine (up_at n a x true rfl rfl (by omega) (by omega) X.out.1 X.out.2 _).mono ?_
  rintro e w' ⟨rfl, rfl⟩
  go_wp2_with fail
  refine (up_at (x + 1) a (x + a) true (by omega) rfl (by omega) (by omega) Y.out.1 Y.out.2 _).mono ?_
  rintro e w' ⟨rfl, rfl⟩
  go_wp2_with fail
  refine (up_at (x + (1 + r)) a (x + a) true (by omega) rfl (by omega) (by omega) Z.out.1 Z.out.2 _).mono ?_
  rintro e w' ⟨rfl, rfl⟩
  go_wp2
  go_ret
  exact ⟨retB (by simp), G1.out⟩

/-! The walk. -/
theorem walk (a0 : Int) (a1 : Int) (a2 : Int) (w0 : (Lit.int .u32 a0).wf = true) (w1 : (Lit.int .u8 a1).wf = true) (w2 : (Lit.int .u32 a2).wf = true) (w : World) :
    Calls Try.prog 9 #[.int .u32 a0, .int .u8 a1, .int .u32 a2] w fun e w' => e = .returned (.bool true) ∧ Grown w w' := by
  obtain ⟨n, hn, rfl⟩ := u32_nat w0
  obtain ⟨k, hk, rfl⟩ := u8_nat w1
  obtain ⟨d, hd, rfl⟩ := u32_nat w2
  obtain ⟨a, ea, pa, la⟩ := shifted32 k
  have a0 := M.powB_pos a pa
  have hu := M.up_small n a pa (by omega)
  obtain ⟨f1, f2, f3⟩ := M.up_true n a pa hu
  have hda := Nat.mod_lt d a0
  exact core n k d a (M.upV n a) hn hk hd ea la a0 (by omega) hda (Lib.hid ⟨rfl, hu⟩) (Lib.hid (M.up_step _ 1 a pa f1 (by omega) (by omega) (by omega)))
    (Lib.hid (M.up_step _ (1 + d % a) a pa f1 (by omega) (by omega) (by omega))) w

/-! The row's step. -/
set_option maxRecDepth 100000 in
theorem lifted (os : Os) (started : os.Started) (H : Type) (enc : TypeId × Value → H) :
    ReturnsInHanded {} Try.checked os 9 .any (Rows.bitsStepsSpec.pre6 enc Try.prog Try.f9 Rows.bitsStepsRow.domain false) (Rows.bitsStepsSpec.post enc Try.prog Try.f9 false true false false) := by
  refine returnsInHanded_of_change (C := Try.checked) own started (by kernel_rfl) Try.func9
    (ChangeSpec.witness6 (enc := enc) (C := Try.checked) false ⟨#[], #[.int .u32 0, .int .u8 0, .int .u32 0], []⟩ 8 (by kernel_rfl) (by kernel_rfl) (by kernel_rfl) (by kernel_rfl)) ?_
  intro W base args ds gs before hval0 hW hcnd _
  have hval : ∀ (j : Nat) t v, Try.f9.params[j]? = some t → args[j]? = some v → Value.okWide Try.prog W .any base t v := hval0
  have hW' := hW
  obtain ⟨p, q, hA0, hV, rfl, hfz, hnd⟩ := hW
  have hA : DataW.TrodAll enc Try.prog W 0 (fun _ => true) true Try.f9.params.toList args.toList ds p := hA0
  rw [Try.params9] at hA hval
  obtain ⟨v0, vs0, d0, ds0, p0, q0, hargs, rfl, rfl, h0, r0⟩ := trodAll_cons hA
  obtain ⟨v1, vs1, d1, ds1, p1, q1, rfl, rfl, rfl, h1, r1⟩ := trodAll_cons r0
  obtain ⟨v2, vs2, d2, ds2, p2, q2, rfl, rfl, rfl, h2, r2⟩ := trodAll_cons r1
  obtain ⟨rfl, rfl, rfl⟩ := trodAll_nil r2
  obtain rfl : args = #[v0, v1, v2] := by cases args; simp_all
  obtain ⟨rfl, rfl⟩ := trodVars_none hV
  obtain ⟨a0, rfl, rfl, rfl, w0⟩ := open_int Try.underlying33 (hval 0 33 v0 rfl rfl) h0
  obtain ⟨a1, rfl, rfl, rfl, w1⟩ := open_int Try.underlying5 (hval 1 5 v1 rfl rfl) h1
  obtain ⟨a2, rfl, rfl, rfl, w2⟩ := open_int Try.underlying33 (hval 2 33 v2 rfl rfl) h2
  clear hA0 hval0
  simp only [List.append_nil] at hW'
  refine (walk a0 a1 a2 w0 w1 w2 W).mono fun e W' ⟨he, hg⟩ => ?_
  subst he
  exact ⟨_, rfl, post_of_same (pa := []) (pv := []) hW' (fun _ _ _ => (trodAll_cons_mk (shut_bool Try.underlying4 _) trodAll_mk0)) (fun sp _ => (trodAll_cons_mk (shut_int Try.underlying33 w0) (trodAll_cons_mk (shut_int Try.underlying5 w1) (trodAll_cons_mk (shut_int Try.underlying33 w2) trodAll_mk0)))) (fun _ _ => rfl) rfl
    (hg.frame _) hg.2.1 (ok_one (by kernel_rfl) rfl (okWide_bool_mk Try.underlying4 _))⟩

theorem over : Rows.bitsStepsRow.holds Try.pinned (OpenSpec.ofChange Rows.bitsStepsSpec) :=
  OpenClaim.holds_of_wide 9 Try.f9 rfl rfl rfl rfl rfl rfl rfl ⟨rfl, rfl, rfl, rfl, rfl⟩ rfl rfl rfl rfl rfl (by kernel_rfl) Try.func9 (by kernel_rfl)
    (of_decide_eq_true (by kernel_rfl)) (by unfold Func.isWrapper; first | (rw [if_pos (by decide +kernel)]; kernel_rfl) | (rw [if_neg (by decide +kernel)]; exact ⟨rfl, rfl⟩))
    (fun os started H enc _ => lifted os started H enc)

/-- The statement. -/
theorem proved : Rows.BitsStepsSaid :=
  over
#print axioms proved
end Go.Proofs.Ytkpcdaofekndlaa.bitsSteps
