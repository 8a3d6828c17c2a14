/-
  ClassesHold: a chunk holds the header, padding, and the bytes for which it is made; for every input the law returns true, and the arguments read behind the call as they read before. No condition.
-/
import Derived.Test.YtihaoikblaldlaaRows
import Derived.WalkKit
import Derived.ProofKit
import Derived.OpenShut
import Derived.ShutString
import Derived.ChangeOld
import Derived.Below
import Derived.Test.YtihaoikblaldlaaA7
import Derived.Test.YtihaoikblaldlaaL7
namespace Go.Proofs.Ytihaoikblaldlaa.classesHold
open Go.ChangeShapes Go.WideShapes Go.ChangeAt Go.RowKit
set_option linter.unusedVariables false

theorem own : ownKnob Try.prog.godebug = none := by kernel_rfl

theorem core_no (s k a : Nat) (x : Int) (l : Bool) (hs : s < 18446744073709551616) (hk : k < 256) (ea : IntKind.u64.wrap (2 ^ (k % 13)) = a) (la : a ≤ 4096)
    (X : Hid (M.chunkV s a = x)) (L : Hid (M.chunkL s a = l)) (O : Hid (M.chunkB s a = false)) (h : s = 0 ∨ 4294963200 < s) (w : World) :
    Calls Try.prog 5 #[.int .u64 s, .int .u8 k] w fun e w' => e = .returned (.bool true) ∧ Below w.heap.size w w' := by
  rcases h with rfl | h
  · go_enter Try.func5, Try.ntmps5
    go_wp2_with fail
    refine (awake_any _).mono ?_
    rintro e w' ⟨rfl, rfl⟩
    go_wp2_with fail
    refine (chunk_at 0 a x l false rfl rfl hs (by omega) X.out L.out O.out _).mono ?_
    rintro e w' ⟨rfl, rfl⟩
    go_wp2
    go_ret
    exact ⟨rfl, Below.refl _ _⟩
  · have z0 : ((s : Int) == 0) = false := by simp; omega
    have z1 : decide ((4294963200 : Int) < (s : Int)) = true := decide_eq_true (by omega)
    go_enter Try.func5, Try.ntmps5
    go_wp2_with fail
    refine (awake_any _).mono ?_
    rintro e w' ⟨rfl, rfl⟩
    go_wp2_with fail
    refine (chunk_at s a x l false rfl rfl hs (by omega) X.out L.out O.out _).mono ?_
    rintro e w' ⟨rfl, rfl⟩
    go_wp2
    go_ret
    exact ⟨retB (by simp <;> omega), Below.refl _ _⟩
theorem core_large (s k a f t n : Nat) (hs : s < 18446744073709551616) (hk : k < 256) (ea : IntKind.u64.wrap (2 ^ (k % 13)) = a) (la : a ≤ 4096)
    (X : Hid (M.chunkV s a = (n : Int))) (L : Hid (M.chunkL s a = true)) (O : Hid (M.chunkB s a = true)) (F : Hid (M.upV 32 a = f)) (hf : f ≤ 4096) (T : Hid (f + s = t)) (ht : f + s < 18446744073709551616)
    (P : Hid (M.pgs t = n)) (hn : n ≤ 1048576) (hl : 64 < n) (hm : f + s ≤ n * 4096) (q : Bool) (U : Hid (M.upB 32 a = q)) (w : World) :
    Calls Try.prog 5 #[.int .u64 s, .int .u8 k] w fun e w' => e = .returned (.bool true) ∧ Below w.heap.size w w' := by
  go_enter Try.func5, Try.ntmps5
  go_wp2_with fail
  refine (awake_any _).mono ?_
  rintro e w' ⟨rfl, rfl⟩
  go_wp2_with fail
  refine (chunk_at s a n true true rfl rfl hs (by omega) X.out L.out O.out _).mono ?_
  rintro e w' ⟨rfl, rfl⟩
  go_wp2_with fail
  refine (up_at 32 a f q rfl rfl (by decide) (by omega) F.out U.out _).mono ?_
  rintro e w' ⟨rfl, rfl⟩
  go_wp2_with fail
  refine (pages_at t n (by have := T.out; first | omega | go_num) (by have := T.out; omega) P.out _).mono ?_
  rintro e w' ⟨rfl, rfl⟩
  go_wp2
  go_ret
  exact ⟨retB (by simp <;> omega), Below.refl _ _⟩
theorem core_small (s k a f t m n : Nat) (hs : s < 18446744073709551616) (hk : k < 256) (ea : IntKind.u64.wrap (2 ^ (k % 13)) = a) (la : a ≤ 4096)
    (X : Hid (M.chunkV s a = (m : Int))) (L : Hid (M.chunkL s a = false)) (O : Hid (M.chunkB s a = true)) (F : Hid (M.upV 32 a = f)) (hf : f ≤ 4096) (T : Hid (f + s = t)) (ht : f + s < 18446744073709551616)
    (P : Hid (M.pgs t = n)) (hn : n ≤ 1048576) (hl : m ≤ 64) (hm : f + s ≤ m * 4096) (h2 : m < 2 * n) (W : Hid (M.powB m = true)) (q : Bool) (U : Hid (M.upB 32 a = q)) (w : World) :
    Calls Try.prog 5 #[.int .u64 s, .int .u8 k] w fun e w' => e = .returned (.bool true) ∧ Below w.heap.size w w' := by
  go_enter Try.func5, Try.ntmps5
  go_wp2_with fail
  refine (awake_any _).mono ?_
  rintro e w' ⟨rfl, rfl⟩
  go_wp2_with fail
  refine (chunk_at s a m false true rfl rfl hs (by omega) X.out L.out O.out _).mono ?_
  rintro e w' ⟨rfl, rfl⟩
  go_wp2_with fail
  refine (up_at 32 a f q rfl rfl (by decide) (by omega) F.out U.out _).mono ?_
  rintro e w' ⟨rfl, rfl⟩
  go_wp2_with fail
  refine (pages_at t n (by have := T.out; first | omega | go_num) (by have := T.out; omega) P.out _).mono ?_
  rintro e w' ⟨rfl, rfl⟩
  go_wp2_with fail
  refine (pow_at m true (by first | rfl | go_num) (by omega) W.out _).mono ?_
  rintro e w' ⟨rfl, rfl⟩
  go_wp2
  go_ret
  exact ⟨retB (by simp <;> omega), Below.refl _ _⟩

/-! The walk. -/
theorem walk (a0 : Int) (a1 : Int) (w : World) (w0 : (Lit.int .u64 a0).wf = true) (w1 : (Lit.int .u8 a1).wf = true) :
    Calls Try.prog 5 #[.int .u64 a0, .int .u8 a1] w fun e w' => e = .returned (.bool true) ∧ Below w.heap.size w w' := by
  obtain ⟨s, hs, rfl⟩ := u64_nat w0
  obtain ⟨k, hk, rfl⟩ := u8_nat w1
  obtain ⟨a, ea, pa, la, a0⟩ := shifted13 k
  cases ho : M.chunkB s a with
  | false => exact core_no s k a _ _ hs hk ea la (Lib.hid rfl) (Lib.hid rfl) (Lib.hid ho) (M.hold_no s a pa la ho) w
  | true =>
    obtain ⟨f, t, m, n, h1, h2, h3, h4, h5, h6, h7, h8, h9, h | h⟩ := M.hold_yes s a pa la ho
    · obtain ⟨i1, i2, rfl⟩ := h
      exact core_large s k a f t m hs hk ea la (Lib.hid h5) (Lib.hid i1) (Lib.hid ho) (Lib.hid h1) h2 (Lib.hid h3) (by omega) (Lib.hid h7) h8 i2 (by omega) _ (Lib.hid rfl) w
    · obtain ⟨i1, i2, i3, i4⟩ := h
      exact core_small s k a f t m n hs hk ea la (Lib.hid h5) (Lib.hid i1) (Lib.hid ho) (Lib.hid h1) h2 (Lib.hid h3) (by omega) (Lib.hid h7) h8 i2 (by omega) i4 (Lib.hid i3) _ (Lib.hid rfl) w

/-! The row's step. -/
set_option maxRecDepth 100000 in
theorem lifted (os : Os) (started : os.Started) (H : Type) (enc : TypeId × Value → H) :
    ReturnsInHanded {} Try.checked os 5 .any (Rows.classesHoldSpec.pre6 enc Try.prog Try.f5 Rows.classesHoldRow.domain false) (Rows.classesHoldSpec.post enc Try.prog Try.f5 false true false false) := by
  refine returnsInHanded_of_change (C := Try.checked) own started (by kernel_rfl) Try.func5
    (ChangeSpec.witness6 (enc := enc) (C := Try.checked) false ⟨#[], #[.int .u64 0, .int .u8 0], []⟩ 8 (by kernel_rfl) (by kernel_rfl) (by kernel_rfl) (by kernel_rfl)) ?_
  intro W base args ds gs before hval0 hW hcnd _
  have hval : ∀ (j : Nat) t v, Try.f5.params[j]? = some t → args[j]? = some v → Value.okWide Try.prog W .any base t v := hval0
  have hW' := hW
  obtain ⟨p, q, hA0, hV, rfl, hfz, hnd⟩ := hW
  have hA : DataW.TrodAll enc Try.prog W 0 (fun _ => true) true Try.f5.params.toList args.toList ds p := hA0
  rw [Try.params5] at hA hval
  obtain ⟨v0, vs0, d0, ds0, p0, q0, hargs, rfl, rfl, h0, r0⟩ := trodAll_cons hA
  obtain ⟨v1, vs1, d1, ds1, p1, q1, rfl, rfl, rfl, h1, r1⟩ := trodAll_cons r0
  obtain ⟨rfl, rfl, rfl⟩ := trodAll_nil r1
  obtain rfl : args = #[v0, v1] := by cases args; simp_all
  obtain ⟨rfl, rfl⟩ := trodVars_none hV
  obtain ⟨a0, rfl, rfl, rfl, w0⟩ := open_int Try.underlying25 (hval 0 25 v0 rfl rfl) h0
  obtain ⟨a1, rfl, rfl, rfl, w1⟩ := open_int Try.underlying5 (hval 1 5 v1 rfl rfl) h1
  clear hA0 hval0
  refine (walk a0 a1 W w0 w1).mono fun e W' ⟨he, bel⟩ => ?_
  subst he
  exact ⟨_, rfl, _, _, _, [], _, [], hW', trodAll_mk1 (shut_bool Try.underlying4 _), (trodAll_cons_mk (shut_int Try.underlying25 w0) (trodAll_cons_mk (shut_int Try.underlying5 w1) trodAll_mk0)), rfl, bel.frame _, fun h => by cases h⟩

theorem over : Rows.classesHoldRow.holds Try.pinned (OpenSpec.ofChange Rows.classesHoldSpec) :=
  OpenClaim.holds_of_wide 5 Try.f5 rfl rfl rfl rfl rfl rfl rfl ⟨rfl, rfl, rfl, rfl, rfl⟩ rfl rfl rfl rfl rfl (by kernel_rfl) Try.func5 (by kernel_rfl)
    (of_decide_eq_true (by kernel_rfl)) (by unfold Func.isWrapper; first | (rw [if_pos (by decide +kernel)]; kernel_rfl) | (rw [if_neg (by decide +kernel)]; exact ⟨rfl, rfl⟩))
    (fun os started H enc _ => lifted os started H enc)

/-- The statement. -/
theorem proved : Rows.ClassesHoldSaid := over
#print axioms proved
end Go.Proofs.Ytihaoikblaldlaa.classesHold
