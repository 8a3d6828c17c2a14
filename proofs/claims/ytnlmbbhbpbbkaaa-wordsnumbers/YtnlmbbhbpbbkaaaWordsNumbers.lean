/-
  Proved: for every input the statement WordsNumbers returns true, and its arguments read as before. No condition beyond those of the statement.
-/
import Derived.Test.YtnlmbbhbpbbkaaaRows
import Derived.WalkKit
import Derived.ProofKit
import Derived.OpenShut
import Derived.ShutString
import Derived.ChangeOld
import Derived.Below
import Derived.Test.YtnlmbbhbpbbkaaaEx
import Derived.Deep.DeepCutAuto
namespace Go.Proofs.Ytnlmbbhbpbbkaaa.wordsNumbers
open Go.ChangeShapes Go.WideShapes Go.ChangeAt Go.RowKit
open Go.ChangeMaps (open_string shut_string)
set_option linter.unusedVariables false

theorem own : ownKnob Try.prog.godebug = none := by kernel_rfl
theorem laidOut : laidOutB Try.prog = true := by kernel_rfl

/-- A number with its sign, of any width. -/
def sgnOf (n : Nat) (y : Int) : Int := if M.wide y = true then M.sgn y.toNat n else 0
theorem signed_of (n : Nat) (y : Int) (hn : n < 18446744073709551616) (w : World) :
    Calls Try.prog 16 #[.int .u64 n, .int .i64 y] w fun e w' => e = .returned (.int .i64 (sgnOf n y)) ∧ w = w' := signed_any n y hn w
theorem rSigned_of (n : Nat) (y : Int) (hn : n < 18446744073709551616) (w : World) :
    Calls Try.prog 17 #[.int .u64 n, .int .i64 y] w fun e w' => e = .returned (.int .i64 (sgnOf n y)) ∧ Below w.heap.size w w' := rSigned_any n y hn w
theorem below_call {a W w' : World} (h : Below a.heap.size a W) (hb : Below W.heap.size W w') : Below a.heap.size a w' := h.trans (hb.mono h.size)
theorem drew_call {W w' : World} (hb : Below W.drew.heap.size W.drew w') : Below W.heap.size W w' := ⟨hb.os, hb.tape, hb.output, hb.size, hb.block⟩

/-! The walk. -/
set_option maxHeartbeats 3200000 in
theorem walk (a0 : Int) (a1 : Int) (a2 : Option Addr) (len2 cap2 : Nat) (z2 : List Int) (w : World) (w0 : (Lit.int .u64 a0).wf = true) (w1 : (Lit.int .i64 a1).wf = true) (w2 : IsRow .u64 w a2 len2 cap2 z2) :
    Calls Try.prog 4 #[.int .u64 a0, .int .i64 a1, .slice a2 len2 cap2] w fun e w' => e = .returned (.bool true) ∧ Below w.heap.size w w' := by
  obtain ⟨n, hn, rfl⟩ := u64_nat w0
  obtain ⟨l, rfl, hl, hb⟩ := row_u64 w2
  clear w0 w1 w2
  by_cases h100 : l.length ≤ 100
  · have hz : l.length ≤ 1099511627776 := by omega
    have HL := Lib.hid hl; clear hl
    have HB := Lib.hid hb; clear hb
    go_enter Try.func4, Try.ntmps4
    go_wp2_with fail
    refine (awake_any _).mono ?_
    rintro e w1 ⟨rfl, b1⟩
    have hl1 := HL.out.below b1
    have HL1 := Lib.hid hl1; clear hl1
    have B1 := Lib.hid b1; clear b1
    go_wp2_with fail
    go_region_with (first
      | (go_at_call 14
         refine (fits_any n a1 hn _).mono ?_
         rintro e w' ⟨rfl, rfl⟩)
      | (go_at_call 15
         refine (rFits_any n a1 hn _).mono ?_
         rintro e w2 ⟨rfl, hb2⟩
         have hB2 := drew_call hb2)
      | (go_at_call 16
         refine (signed_of n a1 hn _).mono ?_
         rintro e w' ⟨rfl, rfl⟩)
      | (go_at_call 17
         refine (rSigned_of n a1 hn _).mono ?_
         rintro e w3 ⟨rfl, hb3⟩
         have hB3 := below_call hB2 hb3)
      | (go_at_call 18
         refine (bytes_any a1 a2 l cap2 hz HB.out _ (HL1.out.below hB3)).mono ?_
         rintro e w4 ⟨A4, c4, rfl, hl4, hb4⟩
         have hB4 := below_call hB3 hb4
         have hq4 := conv_str w4 A4 (btsOf a1 l) c4 hl4)
      | (go_at_call 19
         refine (rBytes_any a1 a2 l cap2 hz HB.out _ (HL1.out.below hB4)).mono ?_
         rintro e w5 ⟨rfl, hb5⟩
         have hB5 := below_call hB4 hb5
         have hq5 := conv_str w5 A4 (btsOf a1 l) c4 (hl4.below hb5)))
    all_goals go_wp2
    all_goals go_ret
    all_goals exact ⟨rfl, below_call B1.out hB5⟩
  · have hd : decide ((l.length : Int) > 100) = true := by simp; omega
    go_enter Try.func4, Try.ntmps4
    go_wp2_with fail
    refine (awake_any _).mono ?_
    rintro e w1 ⟨rfl, b1⟩
    go_wp2
    go_ret
    exact ⟨rfl, b1⟩

/-! The row's step. -/
set_option maxRecDepth 100000 in
theorem lifted (os : Os) (started : os.Started) (H : Type) (enc : TypeId × Value → H) :
    ReturnsInHanded {} Try.checked os 4 .any (Rows.wordsNumbersSpec.pre6 enc Try.prog Try.f4 Rows.wordsNumbersRow.domain false) (Rows.wordsNumbersSpec.post enc Try.prog Try.f4 false true false false) := by
  refine returnsInHanded_of_change (C := Try.checked) own started (by kernel_rfl) Try.func4
    (ChangeSpec.witness6 (enc := enc) (C := Try.checked) false ⟨#[], #[.int .u64 0, .int .i64 0, .slice none 0 0], []⟩ 8 (by kernel_rfl) (by kernel_rfl) (by kernel_rfl) (by kernel_rfl)) ?_
  intro W base args ds gs before hval0 hW hcnd _
  have hval : ∀ (j : Nat) t v, Try.f4.params[j]? = some t → args[j]? = some v → Value.okWide Try.prog W .any base t v := hval0
  have hW' := hW
  obtain ⟨p, q, hA0, hV, rfl, hfz, hnd⟩ := hW
  have hA : DataW.TrodAll enc Try.prog W 0 (fun _ => true) true Try.f4.params.toList args.toList ds p := hA0
  rw [Try.params4] at hA hval
  obtain ⟨v0, vs0, d0, ds0, p0, q0, hargs, rfl, rfl, h0, r0⟩ := trodAll_cons hA
  obtain ⟨v1, vs1, d1, ds1, p1, q1, rfl, rfl, rfl, h1, r1⟩ := trodAll_cons r0
  obtain ⟨v2, vs2, d2, ds2, p2, q2, rfl, rfl, rfl, h2, r2⟩ := trodAll_cons r1
  obtain ⟨rfl, rfl, rfl⟩ := trodAll_nil r2
  obtain rfl : args = #[v0, v1, v2] := by cases args; simp_all
  obtain ⟨rfl, rfl⟩ := trodVars_none hV
  obtain ⟨a0, rfl, rfl, rfl, w0⟩ := open_int Try.underlying23 (hval 0 23 v0 rfl rfl) h0
  obtain ⟨a1, rfl, rfl, rfl, w1⟩ := open_int Try.underlying3 (hval 1 3 v1 rfl rfl) h1
  obtain ⟨a2, len2, cap2, rfl⟩ := okWide_slice Try.underlying31 (hval 2 31 v2 rfl rfl)
  have k2 := h2
  have lt2 : ∀ x ∈ p2, x.block < W.heap.size := by obtain ⟨m, hm⟩ := k2; exact DataW.trod_lt m _ _ _ hm
  obtain ⟨z2, w2⟩ : ∃ zs, IsRow .u64 W a2 len2 cap2 zs := by
    obtain ⟨fuel, hf⟩ := h2
    rcases open_ints Try.underlying31 Try.underlying23 (by kernel_rfl) hf with ⟨hcs, _⟩ | ⟨x, l, c, zs, hcs, _, hl, hm, hz, _, hcell, hwz⟩
    · simp [Value.cells] at hcs
      obtain ⟨rfl, rfl, rfl⟩ := hcs
      exact ⟨[], .inl ⟨rfl, rfl, rfl, rfl⟩⟩
    · simp [Value.cells] at hcs
      obtain ⟨rfl, rfl, rfl⟩ := hcs
      exact ⟨zs, .inr ⟨_, rfl, hl, hm, by simpa using hz, hcell, hwz⟩⟩
  clear hA0 hval0
  refine (walk a0 a1 a2 len2 cap2 z2 W w0 w1 w2).mono fun e W' ⟨he, bel⟩ => ?_
  subst he
  exact ⟨_, rfl, _, _, _, [], _, [], hW', trodAll_mk1 (shut_bool Try.underlying4 _), (trodAll_cons_mk (shut_int Try.underlying23 w0) (trodAll_cons_mk (shut_int Try.underlying3 w1) (trodAll_cons_mk (Below.trod laidOut (by kernel_rfl) (of_decide_eq_true (by kernel_rfl)) k2 bel lt2) trodAll_mk0))), rfl, bel.frame _, fun h => by cases h⟩

theorem over : Rows.wordsNumbersRow.holds Try.pinned (OpenSpec.ofChange Rows.wordsNumbersSpec) :=
  OpenClaim.holds_of_wide 4 Try.f4 rfl rfl rfl rfl rfl rfl rfl ⟨rfl, rfl, rfl, rfl, rfl⟩ rfl rfl rfl rfl rfl (by kernel_rfl) Try.func4 (by kernel_rfl)
    (of_decide_eq_true (by kernel_rfl)) (by unfold Func.isWrapper; first | (rw [if_pos (by decide +kernel)]; kernel_rfl) | (rw [if_neg (by decide +kernel)]; exact ⟨rfl, rfl⟩))
    (fun os started H enc _ => lifted os started H enc)

/-- The statement. -/
theorem proved : Rows.WordsNumbersSaid := over
#print axioms proved
end Go.Proofs.Ytnlmbbhbpbbkaaa.wordsNumbers
