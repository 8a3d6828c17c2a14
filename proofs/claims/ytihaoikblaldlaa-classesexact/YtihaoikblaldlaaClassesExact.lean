/-
  ClassesExact: bytes that fill a class's chunk to its end get that class, one byte more the next one, or a large chunk; for every input the law returns true, and the arguments read behind the call as they read before. No condition.
-/
import Derived.Test.YtihaoikblaldlaaRows
import Derived.WalkKit
import Derived.ProofKit
import Derived.OpenShut
import Derived.ShutString
import Derived.ChangeOld
import Derived.Below
import Derived.Test.YtihaoikblaldlaaA7
import Derived.Test.YtihaoikblaldlaaL7
namespace Go.Proofs.Ytihaoikblaldlaa.classesExact
open Go.ChangeShapes Go.WideShapes Go.ChangeAt Go.RowKit
set_option linter.unusedVariables false

theorem own : ownKnob Try.prog.godebug = none := by kernel_rfl

theorem core_zero (cl k : Nat) (hc : cl < 256) (hk : k < 256) (ec : (cl : Int) % 7 = 0) (ea : IntKind.u64.wrap (2 ^ (k % 13)) = 4096) (F : Hid (M.upV 32 4096 = 4096)) (U : Hid (M.upB 32 4096 = true)) (w : World) :
    Calls Try.prog 8 #[.int .u8 cl, .int .u8 k] w fun e w' => e = .returned (.bool true) ∧ Below w.heap.size w w' := by
  go_enter Try.func8, Try.ntmps8
  go_wp2_with fail
  refine (awake_any _).mono ?_
  rintro e w' ⟨rfl, rfl⟩
  go_wp2_with fail
  refine (up_at 32 4096 4096 true rfl rfl (by decide) (by decide) F.out U.out _).mono ?_
  rintro e w' ⟨rfl, rfl⟩
  go_wp2_with fail
  refine (cpages_at 0 1 rfl (by decide) _).mono ?_
  rintro e w' ⟨rfl, rfl⟩
  go_wp2
  go_ret
  exact ⟨rfl, Below.refl _ _⟩
theorem core_next (cl k c a f g z : Nat) (hc : cl < 256) (hk : k < 256) (ec : (cl : Int) % 7 = (c : Int)) (h6 : c < 6) (ea : IntKind.u64.wrap (2 ^ (k % 13)) = a) (la : a ≤ 4096) (F : Hid (M.upV 32 a = f)) (q : Bool) (U : Hid (M.upB 32 a = q))
    (hf : f ≤ 4096) (G : Hid (M.pg (c : Int) = (g : Int))) (hg : 1 ≤ g) (gl : g ≤ 64) (hz : f < g * 4096) (Z : Hid (g * 4096 - f = z))
    (X : Hid (M.chunkV z a = (g : Int))) (L : Hid (M.chunkL z a = false)) (O : Hid (M.chunkB z a = true))
    (X' : Hid (M.chunkV (z + 1) a = ((2 * g : Nat) : Int))) (L' : Hid (M.chunkL (z + 1) a = false)) (O' : Hid (M.chunkB (z + 1) a = true)) (w : World) :
    Calls Try.prog 8 #[.int .u8 cl, .int .u8 k] w fun e w' => e = .returned (.bool true) ∧ Below w.heap.size w w' := by
  have z0 : ((g : Int) * 4096 - (f : Int) == 0) = false := by simp; omega
  have z6 : ((c : Int) == 6) = false := by simp; omega
  go_enter Try.func8, Try.ntmps8
  go_wp2_with fail
  refine (awake_any _).mono ?_
  rintro e w' ⟨rfl, rfl⟩
  go_wp2_with fail
  refine (up_at 32 a f q rfl rfl (by decide) (by omega) F.out U.out _).mono ?_
  rintro e w' ⟨rfl, rfl⟩
  go_wp2_with fail
  refine (cpages_at c g rfl G.out _).mono ?_
  rintro e w' ⟨rfl, rfl⟩
  go_wp2_with fail
  refine (chunk_at z a g false true (by have := Z.out; first | omega | go_num) rfl (by have := Z.out; omega) (by omega) X.out L.out O.out _).mono ?_
  rintro e w' ⟨rfl, rfl⟩
  go_wp2_with fail
  refine (chunk_at (z + 1) a ((2 * g : Nat) : Int) false true (by have := Z.out; first | omega | go_num) rfl (by have := Z.out; omega) (by omega) X'.out L'.out O'.out _).mono ?_
  rintro e w' ⟨rfl, rfl⟩
  go_wp2_with fail
  refine (cpages_at c g rfl G.out _).mono ?_
  rintro e w' ⟨rfl, rfl⟩
  go_wp2
  go_ret
  exact ⟨retB (by simp <;> omega), Below.refl _ _⟩
theorem core_last (cl k a f z : Nat) (hc : cl < 256) (hk : k < 256) (ec : (cl : Int) % 7 = 6) (ea : IntKind.u64.wrap (2 ^ (k % 13)) = a) (la : a ≤ 4096) (F : Hid (M.upV 32 a = f)) (q : Bool) (U : Hid (M.upB 32 a = q))
    (hf : f ≤ 4096) (Z : Hid (262144 - f = z))
    (X : Hid (M.chunkV z a = 64)) (L : Hid (M.chunkL z a = false)) (O : Hid (M.chunkB z a = true))
    (X' : Hid (M.chunkV (z + 1) a = 65)) (L' : Hid (M.chunkL (z + 1) a = true)) (O' : Hid (M.chunkB (z + 1) a = true)) (w : World) :
    Calls Try.prog 8 #[.int .u8 cl, .int .u8 k] w fun e w' => e = .returned (.bool true) ∧ Below w.heap.size w w' := by
  have z0 : ((262144 : Int) - (f : Int) == 0) = false := by simp; omega
  go_enter Try.func8, Try.ntmps8
  go_wp2_with fail
  refine (awake_any _).mono ?_
  rintro e w' ⟨rfl, rfl⟩
  go_wp2_with fail
  refine (up_at 32 a f q rfl rfl (by decide) (by omega) F.out U.out _).mono ?_
  rintro e w' ⟨rfl, rfl⟩
  go_wp2_with fail
  refine (cpages_at 6 64 rfl (by decide) _).mono ?_
  rintro e w' ⟨rfl, rfl⟩
  go_wp2_with fail
  refine (chunk_at z a 64 false true (by have := Z.out; first | omega | go_num) rfl (by have := Z.out; omega) (by omega) X.out L.out O.out _).mono ?_
  rintro e w' ⟨rfl, rfl⟩
  go_wp2_with fail
  refine (chunk_at (z + 1) a 65 true true (by have := Z.out; first | omega | go_num) rfl (by have := Z.out; omega) (by omega) X'.out L'.out O'.out _).mono ?_
  rintro e w' ⟨rfl, rfl⟩
  go_wp2_with fail
  refine (cpages_at 6 64 rfl (by decide) _).mono ?_
  rintro e w' ⟨rfl, rfl⟩
  go_wp2
  go_ret
  exact ⟨rfl, Below.refl _ _⟩

/-! The walk. -/
theorem walk (a0 : Int) (a1 : Int) (w : World) (w0 : (Lit.int .u8 a0).wf = true) (w1 : (Lit.int .u8 a1).wf = true) :
    Calls Try.prog 8 #[.int .u8 a0, .int .u8 a1] w fun e w' => e = .returned (.bool true) ∧ Below w.heap.size w w' := by
  obtain ⟨cl, hc, rfl⟩ := u8_nat w0
  obtain ⟨k, hk, rfl⟩ := u8_nat w1
  obtain ⟨a, ea, pa, la, a0⟩ := shifted13 k
  have hf := M.fst_le a pa la
  have full := M.exact_full a pa la
  have small := fun g hg => M.exact_small g a hg pa la
  have next := fun g hg => M.exact_next g a hg pa la
  have last := M.exact_last a pa la
  have fe : M.upV 32 a = M.fst a := rfl
  generalize M.fst a = f at *
  rcases (by omega : cl % 7 = 6 ∨ cl % 7 < 6) with h6 | h6
  · obtain ⟨s1, s2, s3⟩ := small 64 (by omega) (by omega)
    exact core_last cl k a f (64 * 4096 - f) hc hk (by omega) ea la (Lib.hid fe) _ (Lib.hid rfl) hf (Lib.hid rfl) (Lib.hid s1) (Lib.hid s2) (Lib.hid s3) (Lib.hid last.1) (Lib.hid last.2.1) (Lib.hid last.2.2) w
  · by_cases h0 : cl % 7 = 0 ∧ f = 4096
    · obtain ⟨h0, h1⟩ := h0
      have ha := full h1
      subst h1
      subst ha
      exact core_zero cl k hc hk (by omega) ea (Lib.hid fe) (Lib.hid (by decide)) w
    · have hg : ∃ g : Nat, (g = 1 ∨ g = 2 ∨ g = 4 ∨ g = 8 ∨ g = 16 ∨ g = 32) ∧ M.pg ((cl % 7 : Nat) : Int) = (g : Int) ∧ (cl % 7 = 0 ↔ g = 1) := by
        rcases (by omega : cl % 7 = 0 ∨ cl % 7 = 1 ∨ cl % 7 = 2 ∨ cl % 7 = 3 ∨ cl % 7 = 4 ∨ cl % 7 = 5) with e | e | e | e | e | e <;> rw [e]
        · exact ⟨1, by omega, by decide, by omega⟩
        · exact ⟨2, by omega, by decide, by omega⟩
        · exact ⟨4, by omega, by decide, by omega⟩
        · exact ⟨8, by omega, by decide, by omega⟩
        · exact ⟨16, by omega, by decide, by omega⟩
        · exact ⟨32, by omega, by decide, by omega⟩
      obtain ⟨g, g1, g2, g3⟩ := hg
      obtain ⟨s1, s2, s3⟩ := small g (by omega) (by omega)
      obtain ⟨t1, t2, t3⟩ := next g g1
      exact core_next cl k (cl % 7) a f g (g * 4096 - f) hc hk (by omega) h6 ea la (Lib.hid fe) _ (Lib.hid rfl) hf (Lib.hid g2) (by omega) (by omega) (by omega) (Lib.hid rfl) (Lib.hid s1) (Lib.hid s2) (Lib.hid s3) (Lib.hid t1) (Lib.hid t2) (Lib.hid t3) w

/-! The row's step. -/
set_option maxRecDepth 100000 in
theorem lifted (os : Os) (started : os.Started) (H : Type) (enc : TypeId × Value → H) :
    ReturnsInHanded {} Try.checked os 8 .any (Rows.classesExactSpec.pre6 enc Try.prog Try.f8 Rows.classesExactRow.domain false) (Rows.classesExactSpec.post enc Try.prog Try.f8 false true false false) := by
  refine returnsInHanded_of_change (C := Try.checked) own started (by kernel_rfl) Try.func8
    (ChangeSpec.witness6 (enc := enc) (C := Try.checked) false ⟨#[], #[.int .u8 0, .int .u8 0], []⟩ 8 (by kernel_rfl) (by kernel_rfl) (by kernel_rfl) (by kernel_rfl)) ?_
  intro W base args ds gs before hval0 hW hcnd _
  have hval : ∀ (j : Nat) t v, Try.f8.params[j]? = some t → args[j]? = some v → Value.okWide Try.prog W .any base t v := hval0
  have hW' := hW
  obtain ⟨p, q, hA0, hV, rfl, hfz, hnd⟩ := hW
  have hA : DataW.TrodAll enc Try.prog W 0 (fun _ => true) true Try.f8.params.toList args.toList ds p := hA0
  rw [Try.params8] at hA hval
  obtain ⟨v0, vs0, d0, ds0, p0, q0, hargs, rfl, rfl, h0, r0⟩ := trodAll_cons hA
  obtain ⟨v1, vs1, d1, ds1, p1, q1, rfl, rfl, rfl, h1, r1⟩ := trodAll_cons r0
  obtain ⟨rfl, rfl, rfl⟩ := trodAll_nil r1
  obtain rfl : args = #[v0, v1] := by cases args; simp_all
  obtain ⟨rfl, rfl⟩ := trodVars_none hV
  obtain ⟨a0, rfl, rfl, rfl, w0⟩ := open_int Try.underlying5 (hval 0 5 v0 rfl rfl) h0
  obtain ⟨a1, rfl, rfl, rfl, w1⟩ := open_int Try.underlying5 (hval 1 5 v1 rfl rfl) h1
  clear hA0 hval0
  refine (walk a0 a1 W w0 w1).mono fun e W' ⟨he, bel⟩ => ?_
  subst he
  exact ⟨_, rfl, _, _, _, [], _, [], hW', trodAll_mk1 (shut_bool Try.underlying4 _), (trodAll_cons_mk (shut_int Try.underlying5 w0) (trodAll_cons_mk (shut_int Try.underlying5 w1) trodAll_mk0)), rfl, bel.frame _, fun h => by cases h⟩

theorem over : Rows.classesExactRow.holds Try.pinned (OpenSpec.ofChange Rows.classesExactSpec) :=
  OpenClaim.holds_of_wide 8 Try.f8 rfl rfl rfl rfl rfl rfl rfl ⟨rfl, rfl, rfl, rfl, rfl⟩ rfl rfl rfl rfl rfl (by kernel_rfl) Try.func8 (by kernel_rfl)
    (of_decide_eq_true (by kernel_rfl)) (by unfold Func.isWrapper; first | (rw [if_pos (by decide +kernel)]; kernel_rfl) | (rw [if_neg (by decide +kernel)]; exact ⟨rfl, rfl⟩))
    (fun os started H enc _ => lifted os started H enc)

/-- The statement. -/
theorem proved : Rows.ClassesExactSaid := over
#print axioms proved
end Go.Proofs.Ytihaoikblaldlaa.classesExact
