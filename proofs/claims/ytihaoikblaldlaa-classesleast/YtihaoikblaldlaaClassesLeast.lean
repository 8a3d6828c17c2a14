/-
  ClassesLeast: the class of pages has enough of them, and the class ahead has not; for every input the law returns true, and the arguments read behind the call as they read before. No condition.
-/
import Derived.Test.YtihaoikblaldlaaRows
import Derived.WalkKit
import Derived.ProofKit
import Derived.OpenShut
import Derived.ShutString
import Derived.ChangeOld
import Derived.Below
import Derived.Test.YtihaoikblaldlaaA7
import Derived.Test.YtihaoikblaldlaaL7
namespace Go.Proofs.Ytihaoikblaldlaa.classesLeast
open Go.ChangeShapes Go.WideShapes Go.ChangeAt Go.RowKit
set_option linter.unusedVariables false

theorem own : ownKnob Try.prog.godebug = none := by kernel_rfl

theorem core_no (n : Nat) (hn : n < 256) (h : n < 1 ∨ 64 < n) (w : World) :
    Calls Try.prog 7 #[.int .u8 n] w fun e w' => e = .returned (.bool true) ∧ Below w.heap.size w w' := by
  have c : M.cls (n : Int) = -1 := by rcases h with h | h
                                      · exact M.cls_low n (by omega)
                                      · exact M.cls_none n (by omega)
  have C := Lib.hid c; clear c
  rcases h with h | h
  · obtain rfl : n = 0 := by omega
    go_enter Try.func7, Try.ntmps7
    go_wp2_with fail
    refine (awake_any _).mono ?_
    rintro e w' ⟨rfl, rfl⟩
    go_wp2_with fail
    refine (class_at 0 (-1) rfl C.out _).mono ?_
    rintro e w' ⟨rfl, rfl⟩
    go_wp2
    go_ret
    exact ⟨rfl, Below.refl _ _⟩
  · have z0 : decide ((n : Int) < 1) = false := decide_eq_false (by omega)
    go_enter Try.func7, Try.ntmps7
    go_wp2_with fail
    refine (awake_any _).mono ?_
    rintro e w' ⟨rfl, rfl⟩
    go_wp2_with fail
    refine (class_at n (-1) (by first | rfl | go_num) C.out _).mono ?_
    rintro e w' ⟨rfl, rfl⟩
    go_wp2
    go_ret
    exact ⟨rfl, Below.refl _ _⟩
theorem core_yes (n c g : Nat) (h : Int) (hn : 1 ≤ n) (hm : n ≤ 64) (hc : c < 7) (C : Hid (M.cls (n : Int) = (c : Int))) (G : Hid (M.pg (c : Int) = (g : Int))) (hg : n ≤ g) (hh : g ≤ 64)
    (H : Hid (M.pg ((c : Int) - 1) = h)) (K : Hid (c = 0 ∨ h < n)) (D : Hid (M.cls (g : Int) = (c : Int))) (P : Hid (M.powB g = true)) (w : World) :
    Calls Try.prog 7 #[.int .u8 n] w fun e w' => e = .returned (.bool true) ∧ Below w.heap.size w w' := by
  have z0 : decide ((n : Int) < 1) = false := decide_eq_false (by omega)
  have z1 : decide ((64 : Int) < (n : Int)) = false := decide_eq_false (by omega)
  have z2 : decide ((g : Int) < (n : Int)) = false := decide_eq_false (by omega)
  by_cases hc0 : c = 0
  · subst hc0
    go_enter Try.func7, Try.ntmps7
    go_wp2_with fail
    refine (awake_any _).mono ?_
    rintro e w' ⟨rfl, rfl⟩
    go_wp2_with fail
    refine (class_at n 0 (by first | rfl | go_num) C.out _).mono ?_
    rintro e w' ⟨rfl, rfl⟩
    go_wp2_with fail
    refine (cpages_at 0 g rfl G.out _).mono ?_
    rintro e w' ⟨rfl, rfl⟩
    go_wp2_with fail
    refine (cpages_at 0 g rfl G.out _).mono ?_
    rintro e w' ⟨rfl, rfl⟩
    go_wp2_with fail
    refine (class_at g 0 rfl D.out _).mono ?_
    rintro e w' ⟨rfl, rfl⟩
    go_wp2_with fail
    refine (cpages_at 0 g rfl G.out _).mono ?_
    rintro e w' ⟨rfl, rfl⟩
    go_wp2_with fail
    refine (pow_at g true (by first | rfl | go_num) (by omega) P.out _).mono ?_
    rintro e w' ⟨rfl, rfl⟩
    go_wp2
    go_ret
    exact ⟨rfl, Below.refl _ _⟩
  · have k := K.out.resolve_left hc0
    have z3 : decide ((0 : Int) < (c : Int)) = true := decide_eq_true (by omega)
    have z4 : decide ((n : Int) ≤ h) = false := decide_eq_false (by omega)
    go_enter Try.func7, Try.ntmps7
    go_wp2_with fail
    refine (awake_any _).mono ?_
    rintro e w' ⟨rfl, rfl⟩
    go_wp2_with fail
    refine (class_at n c (by first | rfl | go_num) C.out _).mono ?_
    rintro e w' ⟨rfl, rfl⟩
    go_wp2_with fail
    refine (cpages_at c g rfl G.out _).mono ?_
    rintro e w' ⟨rfl, rfl⟩
    go_wp2_with fail
    refine (cpages_at ((c : Int) - 1) h (by first | rfl | go_num) H.out _).mono ?_
    rintro e w' ⟨rfl, rfl⟩
    go_wp2_with fail
    refine (cpages_at c g rfl G.out _).mono ?_
    rintro e w' ⟨rfl, rfl⟩
    go_wp2_with fail
    refine (class_at g c rfl D.out _).mono ?_
    rintro e w' ⟨rfl, rfl⟩
    go_wp2_with fail
    refine (cpages_at c g rfl G.out _).mono ?_
    rintro e w' ⟨rfl, rfl⟩
    go_wp2_with fail
    refine (pow_at g true (by first | rfl | go_num) (by omega) P.out _).mono ?_
    rintro e w' ⟨rfl, rfl⟩
    go_wp2
    go_ret
    exact ⟨by simp, Below.refl _ _⟩

/-! The walk. -/
theorem walk (a0 : Int) (w : World) (w0 : (Lit.int .u8 a0).wf = true) :
    Calls Try.prog 7 #[.int .u8 a0] w fun e w' => e = .returned (.bool true) ∧ Below w.heap.size w w' := by
  obtain ⟨n, hn, rfl⟩ := u8_nat w0
  by_cases h : n < 1 ∨ 64 < n
  · exact core_no n hn h w
  · obtain ⟨d1, d2, d3, d4, d5, d6⟩ := M.cls_some (n : Int) (by omega) (by omega)
    have ec : M.cls (n : Int) = (((M.cls n).toNat : Nat) : Int) := by omega
    rw [ec] at d3 d4 d5 d6
    generalize (M.cls n).toNat = c at *
    have hc : c < 7 := by omega
    have g2 := M.pg_pow c hc
    have hq := M.powB_two_pow c
    have hle := M.pg_le (c : Int)
    generalize 2 ^ c = g at *
    rw [g2] at d3 d4 d6 hle
    exact core_yes n c g _ (by omega) (by omega) hc (Lib.hid ec) (Lib.hid g2) (by omega) (by omega) (Lib.hid rfl) (Lib.hid (by omega)) (Lib.hid d6) (Lib.hid hq) w

/-! The row's step. -/
set_option maxRecDepth 100000 in
theorem lifted (os : Os) (started : os.Started) (H : Type) (enc : TypeId × Value → H) :
    ReturnsInHanded {} Try.checked os 7 .any (Rows.classesLeastSpec.pre6 enc Try.prog Try.f7 Rows.classesLeastRow.domain false) (Rows.classesLeastSpec.post enc Try.prog Try.f7 false true false false) := by
  refine returnsInHanded_of_change (C := Try.checked) own started (by kernel_rfl) Try.func7
    (ChangeSpec.witness6 (enc := enc) (C := Try.checked) false ⟨#[], #[.int .u8 0], []⟩ 8 (by kernel_rfl) (by kernel_rfl) (by kernel_rfl) (by kernel_rfl)) ?_
  intro W base args ds gs before hval0 hW hcnd _
  have hval : ∀ (j : Nat) t v, Try.f7.params[j]? = some t → args[j]? = some v → Value.okWide Try.prog W .any base t v := hval0
  have hW' := hW
  obtain ⟨p, q, hA0, hV, rfl, hfz, hnd⟩ := hW
  have hA : DataW.TrodAll enc Try.prog W 0 (fun _ => true) true Try.f7.params.toList args.toList ds p := hA0
  rw [Try.params7] at hA hval
  obtain ⟨v0, vs0, d0, ds0, p0, q0, hargs, rfl, rfl, h0, r0⟩ := trodAll_cons hA
  obtain ⟨rfl, rfl, rfl⟩ := trodAll_nil r0
  obtain rfl : args = #[v0] := by cases args; simp_all
  obtain ⟨rfl, rfl⟩ := trodVars_none hV
  obtain ⟨a0, rfl, rfl, rfl, w0⟩ := open_int Try.underlying5 (hval 0 5 v0 rfl rfl) h0
  clear hA0 hval0
  refine (walk a0 W w0).mono fun e W' ⟨he, bel⟩ => ?_
  subst he
  exact ⟨_, rfl, _, _, _, [], _, [], hW', trodAll_mk1 (shut_bool Try.underlying4 _), (trodAll_cons_mk (shut_int Try.underlying5 w0) trodAll_mk0), rfl, bel.frame _, fun h => by cases h⟩

theorem over : Rows.classesLeastRow.holds Try.pinned (OpenSpec.ofChange Rows.classesLeastSpec) :=
  OpenClaim.holds_of_wide 7 Try.f7 rfl rfl rfl rfl rfl rfl rfl ⟨rfl, rfl, rfl, rfl, rfl⟩ rfl rfl rfl rfl rfl (by kernel_rfl) Try.func7 (by kernel_rfl)
    (of_decide_eq_true (by kernel_rfl)) (by unfold Func.isWrapper; first | (rw [if_pos (by decide +kernel)]; kernel_rfl) | (rw [if_neg (by decide +kernel)]; exact ⟨rfl, rfl⟩))
    (fun os started H enc _ => lifted os started H enc)

/-- The statement. -/
theorem proved : Rows.ClassesLeastSaid := over
#print axioms proved
end Go.Proofs.Ytihaoikblaldlaa.classesLeast
