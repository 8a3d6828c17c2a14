/-
  SpaceMoves is true whatever the input: what is copied is as it was where it came from, and copied back it is as it was; no conditions.
-/
import Derived.Test.YtdchnncoddjngaaRows
import Derived.WalkKit
import Derived.ProofKit
import Derived.OpenShut
import Derived.ShutString
import Derived.ChangeOld
import Derived.Below
import Derived.Test.YtdchnncoddjngaaLaw
namespace Go.Proofs.Ytdchnncoddjngaa.spaceMoves
open Go.ChangeShapes Go.WideShapes Go.ChangeAt Go.RowKit
set_option linter.unusedVariables false

theorem own : ownKnob Try.prog.godebug = none := by kernel_rfl

/-! The walk. -/
set_option maxHeartbeats 1000000 in
theorem walk (a0 : Int) (a1 : Option Addr) (len1 cap1 : Nat) (a2 : Int) (a3 : Int) (a4 : Int) (w : World) (w0 : (Lit.int .u8 a0).wf = true) (w1 : IsActs w a1 len1) (w2 : (Lit.int .u16 a2).wf = true) (w3 : (Lit.int .u16 a3).wf = true) (w4 : (Lit.int .u8 a4).wf = true) :
    Calls Try.prog 5 #[.int .u8 a0, .slice a1 len1 cap1, .int .u16 a2, .int .u16 a3, .int .u8 a4] w fun e w' => e = .returned (.bool true) ∧ Below w.heap.size w w' := by
  obtain ⟨p, hp, rfl⟩ := u8_nat w0
  obtain ⟨hlen, ls, hls, hacts⟩ := w1
  obtain ⟨a, ha, rfl⟩ := u16_nat w2
  obtain ⟨b, hb, rfl⟩ := u16_nat w3
  obtain ⟨k, hk, rfl⟩ := u8_nat w4
  have HA := Lib.hid (show len1 = ls.length ∧ Acts w a1 ls from ⟨hls, hacts⟩)
  clear w0 w2 w3 w4 hls hacts
  go_enter Try.func5, Try.ntmps5
  go_wp2_with fail
  refine (awake_any _).mono ?_
  rintro e w1 ⟨rfl, b1⟩
  have B1 := Lib.hid b1
  clear b1
  go_wp2_with fail
  refine (few_any w1 a1 ls len1 cap1 HA.out.1 (HA.out.2.below B1.out) hlen).mono ?_
  rintro e w' ⟨rfl, rfl⟩
  by_cases hf : fewB ls = true
  · have hl30 := fewB_len hf
    go_wp2_with fail
    refine (at_new (w0 := w) B1.out _ (p + 17) (by omega)).mono ?_
    rintro e w2 ⟨s, O2, rfl, A2⟩
    have H2 := Lib.hid A2
    clear A2
    go_wp2_with fail
    refine (at_play HA.out.1 HA.out.2 (by have := HA.out.1; omega) H2.out (by omega)).mono ?_
    rintro e w3 ⟨rfl, f, T, O, hT, A3, _, _⟩
    have t1 := A3.tl b k (by omega)
    have t2 := A3.tl a k (by omega)
    have HT := Lib.hid (show T ≤ 0 + 125829120 ∧ M.touched b k ≤ 1048578 ∧ M.touched a k ≤ 1048578 from ⟨hT, t1, t2⟩)
    have H3 := Lib.hid A3
    clear A3 hT t1 t2
    go_wp2_with fail
    refine (at_load H3.out b k (by omega) (by omega) (by have := HT.out; omega)).mono ?_
    rintro e w4 ⟨g4, rfl, A4, L4, k4, _, _⟩
    have H4 := Lib.hid A4
    obtain ⟨L, hL⟩ : ∃ L, L = M.rd f b k := ⟨_, rfl⟩
    have hLl : L.length = k := by rw [hL, M.rd_length]
    rw [← hL] at L4
    have HL := Lib.hid (show L = M.rd f b k ∧ L.length = k from ⟨hL, hLl⟩)
    have HL4 := Lib.hid L4
    clear A4 L4 k4 hL hLl
    go_wp2_with fail
    refine (at_copy H4.out a b k (by omega) (by omega) (by omega) (by have := HT.out; omega)).mono ?_
    rintro e w5 ⟨rfl, A5, k5⟩
    have HL5 := Lib.hid (HL4.out.wid k5)
    rw [← HL.out.1] at A5
    have H5 := Lib.hid A5
    clear A5 k5 HL4
    go_wp2_with fail
    refine (at_load H5.out a k (by omega) (by omega) (by have := HT.out; omega)).mono ?_
    rintro e w6 ⟨g6, rfl, A6, L6, k6, _, _⟩
    have e6 : M.rd (M.wr f a L) a k = L := by
      have := M.rd_wr f a L
      rw [HL.out.2] at this
      exact this
    rw [e6] at L6
    have HL6 := Lib.hid (HL5.out.kept k6)
    have HN6 := Lib.hid L6
    have H6 := Lib.hid A6
    have q1 := HL6.out.conv k k HL.out.2.symm
    have q2 := HN6.out.conv k k HL.out.2.symm
    clear A6 L6 k6 e6 HL5
    go_wp2_with fail
    refine (at_copy H6.out b a k (by omega) (by omega) (by omega) (by have := HT.out; omega)).mono ?_
    rintro e w7 ⟨rfl, A7, k7⟩
    have e6 : M.rd (M.wr f a L) a k = L := by
      have := M.rd_wr f a L
      rw [HL.out.2] at this
      exact this
    rw [e6] at A7
    have HL7 := Lib.hid (HL6.out.wid k7)
    have H7 := Lib.hid A7
    clear A7 k7 HL6 e6 q1 q2 HN6
    go_wp2_with fail
    refine (at_load H7.out b k (by omega) (by omega) (by have := HT.out; omega)).mono ?_
    rintro e w8 ⟨g8, rfl, A8, L8, k8, _, _⟩
    have e8 : M.rd (M.wr (M.wr f a L) b L) b k = L := by
      have := M.rd_wr (M.wr f a L) b L
      rw [HL.out.2] at this
      exact this
    rw [e8] at L8
    have q1 := (HL7.out.kept k8).conv k k HL.out.2.symm
    have q2 := L8.conv k k HL.out.2.symm
    have B8 := Lib.hid A8.bel
    clear A8 L8 k8 e8 HL7 H7 H6 H5 H4 H3 H2
    go_wp2
    go_ret
    exact ⟨rfl, B8.out⟩
  · have hf' : fewB ls = false := by simpa using hf
    clear hf
    go_wp2
    go_ret
    exact ⟨rfl, B1.out⟩

/-! The row's step. -/
set_option maxRecDepth 100000 in
theorem lifted (os : Os) (started : os.Started) (H : Type) (enc : TypeId × Value → H) :
    ReturnsInHanded {} Try.checked os 5 .any (Rows.spaceMovesSpec.pre6 enc Try.prog Try.f5 Rows.spaceMovesRow.domain false) (Rows.spaceMovesSpec.post enc Try.prog Try.f5 false true false false) := by
  refine returnsInHanded_of_change (C := Try.checked) own started (by kernel_rfl) Try.func5
    (ChangeSpec.witness6 (enc := enc) (C := Try.checked) false ⟨#[], #[.int .u8 0, .slice none 0 0, .int .u16 0, .int .u16 0, .int .u8 0], []⟩ 8 (by kernel_rfl) (by kernel_rfl) (by kernel_rfl) (by kernel_rfl)) ?_
  intro W base args ds gs before hval0 hW hcnd _
  have hval : ∀ (j : Nat) t v, Try.f5.params[j]? = some t → args[j]? = some v → Value.okWide Try.prog W .any base t v := hval0
  have hW' := hW
  obtain ⟨p, q, hA0, hV, rfl, hfz, hnd⟩ := hW
  have hA : DataW.TrodAll enc Try.prog W 0 (fun _ => true) true Try.f5.params.toList args.toList ds p := hA0
  rw [Try.params5] at hA hval
  obtain ⟨v0, vs0, d0, ds0, p0, q0, hargs, rfl, rfl, h0, r0⟩ := trodAll_cons hA
  obtain ⟨v1, vs1, d1, ds1, p1, q1, rfl, rfl, rfl, h1, r1⟩ := trodAll_cons r0
  obtain ⟨v2, vs2, d2, ds2, p2, q2, rfl, rfl, rfl, h2, r2⟩ := trodAll_cons r1
  obtain ⟨v3, vs3, d3, ds3, p3, q3, rfl, rfl, rfl, h3, r3⟩ := trodAll_cons r2
  obtain ⟨v4, vs4, d4, ds4, p4, q4, rfl, rfl, rfl, h4, r4⟩ := trodAll_cons r3
  obtain ⟨rfl, rfl, rfl⟩ := trodAll_nil r4
  obtain rfl : args = #[v0, v1, v2, v3, v4] := by cases args; simp_all
  obtain ⟨rfl, rfl⟩ := trodVars_none hV
  obtain ⟨a0, rfl, rfl, rfl, w0⟩ := open_int Try.underlying5 (hval 0 5 v0 rfl rfl) h0
  obtain ⟨a1, len1, cap1, rfl⟩ := okWide_slice Try.underlying22 (hval 1 22 v1 rfl rfl)
  have k1 := h1
  have lt1 : ∀ x ∈ p1, x.block < W.heap.size := by obtain ⟨m, hm⟩ := k1; exact DataW.trod_lt m _ _ _ hm
  have w1 : IsActs W a1 len1 := by
    obtain ⟨fuel, hf⟩ := h1
    obtain ⟨A, l, c, hcs, hw⟩ := acts_open hf
    simp [Value.cells] at hcs
    obtain ⟨rfl, rfl, rfl⟩ := hcs
    exact hw
  obtain ⟨a2, rfl, rfl, rfl, w2⟩ := open_int Try.underlying55 (hval 2 55 v2 rfl rfl) h2
  obtain ⟨a3, rfl, rfl, rfl, w3⟩ := open_int Try.underlying55 (hval 3 55 v3 rfl rfl) h3
  obtain ⟨a4, rfl, rfl, rfl, w4⟩ := open_int Try.underlying5 (hval 4 5 v4 rfl rfl) h4
  clear hA0 hval0
  refine (walk a0 a1 len1 cap1 a2 a3 a4 W w0 w1 w2 w3 w4).mono fun e W' ⟨he, bel⟩ => ?_
  subst he
  exact ⟨_, rfl, _, _, _, [], _, [], hW', trodAll_mk1 (shut_bool Try.underlying4 _), (trodAll_cons_mk (shut_int Try.underlying5 w0) (trodAll_cons_mk (Below.trod laidOut (by kernel_rfl) (of_decide_eq_true (by kernel_rfl)) k1 bel lt1) (trodAll_cons_mk (shut_int Try.underlying55 w2) (trodAll_cons_mk (shut_int Try.underlying55 w3) (trodAll_cons_mk (shut_int Try.underlying5 w4) trodAll_mk0))))), rfl, bel.frame _, fun h => by cases h⟩

theorem over : Rows.spaceMovesRow.holds Try.pinned (OpenSpec.ofChange Rows.spaceMovesSpec) :=
  OpenClaim.holds_of_wide 5 Try.f5 rfl rfl rfl rfl rfl rfl rfl ⟨rfl, rfl, rfl, rfl, rfl⟩ rfl rfl rfl rfl rfl (by kernel_rfl) Try.func5 (by kernel_rfl)
    (of_decide_eq_true (by kernel_rfl)) (by unfold Func.isWrapper; first | (rw [if_pos (by decide +kernel)]; kernel_rfl) | (rw [if_neg (by decide +kernel)]; exact ⟨rfl, rfl⟩))
    (fun os started H enc _ => lifted os started H enc)

/-- The statement. -/
theorem proved : Rows.SpaceMovesSaid := over
#print axioms proved
end Go.Proofs.Ytdchnncoddjngaa.spaceMoves
