/-
  RunsTwo: pages that are given back in two parts are as those that are given back at once; for every input the law returns true, and the arguments read behind the call as they read before. No condition.
-/
import Derived.Test.YtbmibggjdilhkaaRows
import Derived.WalkKit
import Derived.ProofKit
import Derived.OpenShut
import Derived.ShutString
import Derived.ChangeOld
import Derived.Below
import Derived.Test.YtbmibggjdilhkaaLaw5
namespace Go.Proofs.Ytbmibggjdilhkaa.runsTwo
open Go.ChangeShapes Go.WideShapes Go.ChangeAt Go.RowKit
set_option linter.unusedVariables false

theorem own : ownKnob Try.prog.godebug = none := by kernel_rfl

theorem u16_nat' {a : Int} (h : (Lit.int .u16 a).wf = true) : ∃ n : Nat, n < 65536 ∧ a = n := by
  have := bounds_u16 h
  exact ⟨a.toNat, by omega, by omega⟩

/-! The walk. -/
set_option maxRecDepth 20000 in
set_option maxHeartbeats 4000000 in
theorem walk (a0 : Option Addr) (len0 cap0 : Nat) (a1 : Int) (a2 : Int) (a3 : Int) (w : World) (w0 : IsActs w a0 len0) (w1 : (Lit.int .u16 a1).wf = true) (w2 : (Lit.int .u8 a2).wf = true) (w3 : (Lit.int .u8 a3).wf = true) :
    Calls Try.prog 9 #[.slice a0 len0 cap0, .int .u16 a1, .int .u8 a2, .int .u8 a3] w fun e w' => e = .returned (.bool true) ∧ Below w.heap.size w w' := by
  obtain ⟨pg, hpg, rfl⟩ := u16_nat' w1
  obtain ⟨n, hn, rfl⟩ := u8_nat w2
  obtain ⟨ct, hct, rfl⟩ := u8_nat w3
  clear w1 w2 w3
  obtain ⟨hl0, l, hl, hr⟩ := w0
  have HR := Lib.hid (And.intro hl hr)
  clear hl hr
  go_enter Try.func9, Try.ntmps9
  go_wp2_with fail
  refine (awake_any _).mono ?_
  rintro e w1 ⟨rfl, b1⟩
  have B1 := Lib.hid b1
  clear b1
  go_wp2_with fail
  refine (few_any _ a0 l len0 cap0 HR.out.1 (HR.out.2.below B1.out) hl0).mono ?_
  rintro e w2 ⟨rfl, b2⟩
  have B2 := Lib.hid (below_call B1.out b2)
  clear b2
  obtain ⟨fb, hfb⟩ : ∃ fb, fb = fewB l := ⟨_, rfl⟩
  rw [← hfb]
  cases fb with
  | false =>
    clear hfb
    go_wp2_with fail
    go_ret
    exact ⟨rfl, B2.out⟩
  | true =>
  have hfw := (fewB_iff l).1 hfb.symm
  have HF := Lib.hid hfw
  have hl60 : len0 ≤ 60 := by have := HR.out.1; omega
  clear hfb hfw
  by_cases hn2 : n < 2
  · go_wp2_with fail
    go_ret
    exact ⟨rfl, B2.out⟩
  obtain ⟨k, hk⟩ : ∃ k : Nat, k = 1 + ct % (n - 1) := ⟨_, rfl⟩
  have hk1 : 1 ≤ k := by omega
  have hkn : k < n := by have := Nat.mod_lt ct (show 0 < n - 1 by omega); omega
  have hmod : (ct : Int).tmod ((n : Int) - 1) = ((k - 1 : Nat) : Int) := by
    rw [show (n : Int) - 1 = ((n - 1 : Nat) : Int) by omega, Int.tmod_eq_emod_of_nonneg (by omega), ← Int.natCast_emod]
    omega
  have hmod2 : (ct : Int) % ((n : Int) - 1) = ((k - 1 : Nat) : Int) := by
    rw [show (n : Int) - 1 = ((n - 1 : Nat) : Int) by omega, ← Int.natCast_emod]
    omega
  have hsum : 1 + ((k - 1 : Nat) : Int) = (k : Int) := by omega
  have hz : ¬ ((n : Int) - 1 = 0) := by omega
  have HT := Lib.hid (two_facts (l := l) (p := (pg : Int)) (n := (n : Int)) (k := (k : Int)) HF.out.2 (by omega) (by omega) (by omega) (by omega))
  have HK := Lib.hid hk
  clear hk
  go_wp2_with fail
  clear hmod hmod2 hsum hz
  refine (give_any w2 a0 l len0 cap0 HR.out.1 (HR.out.2.below B2.out) (by omega) HF.out.2 1073741824 (pg : Int) (n : Int) (Int.le_refl _) (by omega)).mono ?_
  rintro e w3 ⟨A3, t3, c3, rfl, ht3, r3, b3⟩
  have B3 := Lib.hid (below_call B2.out b3)
  have R3 := Lib.hid (And.intro ht3 r3)
  clear b3 ht3 r3
  obtain ⟨is, his⟩ : ∃ b, b = giveB l 1073741824 (pg : Int) (n : Int) := ⟨_, rfl⟩
  rw [← his]
  have HIS := Lib.hid his
  clear his
  go_wp2_with fail
  refine (give_any w3 a0 l len0 cap0 HR.out.1 (HR.out.2.below B3.out) (by omega) HF.out.2 1073741824 ((pg : Int) + (k : Int)) ((n : Int) - (k : Int)) (Int.le_refl _) (by omega)).mono ?_
  rintro e w4 ⟨A4, t4, c4, rfl, ht4, r4, b4⟩
  have B4 := Lib.hid (below_call B3.out b4)
  have R4 := Lib.hid (And.intro ht4 (And.intro r4 (R3.out.2.below b4)))
  clear b4 ht4 r4
  obtain ⟨ob, hob⟩ : ∃ b, b = giveB l 1073741824 ((pg : Int) + (k : Int)) ((n : Int) - (k : Int)) := ⟨_, rfl⟩
  rw [← hob]
  cases ob with
  | false =>
    have h1 := HT.out.1 hob.symm
    rw [← HIS.out] at h1
    subst h1
    clear HIS hob
    go_wp2_with fail
    go_ret
    exact ⟨rfl, B4.out⟩
  | true =>
  have h2 := HT.out.2.1 hob.symm
  have h3 := HT.out.2.2 hob.symm
  have hg := given HF.out.2 (Int.le_refl _) hob.symm
  have hlb := giveL_length (l := l) (N := 1073741824) (p := (pg : Int) + (k : Int)) (n := (n : Int) - (k : Int))
  have hla := giveL_length (l := l) (N := 1073741824) (p := (pg : Int)) (n := (n : Int))
  rw [← HIS.out] at h2 h3
  obtain ⟨lb, hlbe⟩ : ∃ x, x = giveL l 1073741824 ((pg : Int) + (k : Int)) ((n : Int) - (k : Int)) := ⟨_, rfl⟩
  obtain ⟨la, hlae⟩ : ∃ x, x = giveL l 1073741824 (pg : Int) (n : Int) := ⟨_, rfl⟩
  rw [← hlbe] at h2 h3 hg hlb R4
  rw [← hlae] at h3 hla R3 R4
  have hla2 : is = true → M.Ok (-1) 1073741824 la := fun h => by rw [hlae]; exact (given HF.out.2 (Int.le_refl _) (by rw [← HIS.out]; exact h)).2.2.2.2.1
  have HG := Lib.hid (show M.Ok (-1) 1073741824 lb ∧ lb.length ≤ 61 ∧ la.length ≤ 61 from ⟨hg.2.2.2.2.1, by have := HF.out.1; omega, by have := HF.out.1; omega⟩)
  have H3 := Lib.hid (And.intro h3 hla2)
  clear HIS hob hlae hlbe hg hlb hla h3 hla2 HT
  go_wp2_with fail
  have gc := give_any w4 A4 lb t4 c4 R4.out.1 R4.out.2.1 (by have := R4.out.1; have := HG.out; omega) HG.out.1 1073741824 (pg : Int) (k : Int) (Int.le_refl _) (by omega)
  rw [h2] at gc
  refine gc.mono ?_
  rintro e w5 ⟨A5, t5, c5, rfl, ht5, r5, b5⟩
  have B5 := Lib.hid (below_call B4.out b5)
  have R5 := Lib.hid (And.intro ht5 (And.intro r5 (R4.out.2.2.below b5)))
  clear b5 ht5 r5 gc h2
  cases is with
  | false =>
    go_wp2_with fail
    go_ret
    exact ⟨rfl, B5.out⟩
  | true =>
  have h3 := H3.out.1 rfl
  have hok := H3.out.2 rfl
  rw [← h3.1] at R5
  have HTT := Lib.hid h3.2
  have HOK := Lib.hid hok
  clear h3 hok H3
  go_wp2_with fail
  refine (same_any _ A3 A5 la la t3 c3 t5 c5 R3.out.1 R5.out.1 R5.out.2.2 R5.out.2.1 (by have := R3.out.1; have := HG.out; omega)).mono ?_
  rintro e w6 ⟨rfl, b6⟩
  have B6 := Lib.hid (below_call B5.out b6)
  have R6 := Lib.hid (R5.out.2.2.below b6)
  clear b6
  have e6 : decide (la = la) = true := by simp
  rw [e6]
  clear e6
  go_wp2_with fail
  refine (total_any _ A3 la t3 c3 R3.out.1 R6.out (by have := R3.out.1; have := HG.out; omega) HOK.out).mono ?_
  rintro e w7 ⟨rfl, b7⟩
  have B7 := Lib.hid (below_call B6.out b7)
  clear b7
  go_wp2_with fail
  refine (total_any _ a0 l len0 cap0 HR.out.1 (HR.out.2.below B7.out) hl0 HF.out.2).mono ?_
  rintro e w8 ⟨rfl, b8⟩
  have B8 := Lib.hid (below_call B7.out b8)
  clear b8
  have tb1 := total_between HF.out.2 (by omega) l.length
  rw [List.take_length] at tb1
  obtain ⟨T, hT⟩ : ∃ T, T = M.total l := ⟨_, rfl⟩
  have htm := HTT.out
  rw [← hT] at htm tb1
  rw [← hT, htm]
  have hw : wrap64 (T + (n : Int)) = T + (n : Int) := by unfold wrap64; omega
  clear hT htm tb1 HTT
  go_wp2_with fail
  go_ret
  exact ⟨rfl, B8.out⟩

/-! The row's step. -/
set_option maxRecDepth 100000 in
theorem lifted (os : Os) (started : os.Started) (H : Type) (enc : TypeId × Value → H) :
    ReturnsInHanded {} Try.checked os 9 .any (Rows.runsTwoSpec.pre6 enc Try.prog Try.f9 Rows.runsTwoRow.domain false) (Rows.runsTwoSpec.post enc Try.prog Try.f9 false true false false) := by
  refine returnsInHanded_of_change (C := Try.checked) own started (by kernel_rfl) Try.func9
    (ChangeSpec.witness6 (enc := enc) (C := Try.checked) false ⟨#[], #[.slice none 0 0, .int .u16 0, .int .u8 0, .int .u8 0], []⟩ 8 (by kernel_rfl) (by kernel_rfl) (by kernel_rfl) (by kernel_rfl)) ?_
  intro W base args ds gs before hval0 hW hcnd _
  have hval : ∀ (j : Nat) t v, Try.f9.params[j]? = some t → args[j]? = some v → Value.okWide Try.prog W .any base t v := hval0
  have hW' := hW
  obtain ⟨p, q, hA0, hV, rfl, hfz, hnd⟩ := hW
  have hA : DataW.TrodAll enc Try.prog W 0 (fun _ => true) true Try.f9.params.toList args.toList ds p := hA0
  rw [Try.params9] at hA hval
  obtain ⟨v0, vs0, d0, ds0, p0, q0, hargs, rfl, rfl, h0, r0⟩ := trodAll_cons hA
  obtain ⟨v1, vs1, d1, ds1, p1, q1, rfl, rfl, rfl, h1, r1⟩ := trodAll_cons r0
  obtain ⟨v2, vs2, d2, ds2, p2, q2, rfl, rfl, rfl, h2, r2⟩ := trodAll_cons r1
  obtain ⟨v3, vs3, d3, ds3, p3, q3, rfl, rfl, rfl, h3, r3⟩ := trodAll_cons r2
  obtain ⟨rfl, rfl, rfl⟩ := trodAll_nil r3
  obtain rfl : args = #[v0, v1, v2, v3] := by cases args; simp_all
  obtain ⟨rfl, rfl⟩ := trodVars_none hV
  obtain ⟨a0, len0, cap0, rfl⟩ := okWide_slice Try.underlying22 (hval 0 22 v0 rfl rfl)
  have k0 := h0
  have lt0 : ∀ x ∈ p0, x.block < W.heap.size := by obtain ⟨m, hm⟩ := k0; exact DataW.trod_lt m _ _ _ hm
  have w0 : IsActs W a0 len0 := by
    obtain ⟨fuel, hf⟩ := h0
    obtain ⟨A, l, c, hcs, hw⟩ := acts_open hf
    simp [Value.cells] at hcs
    obtain ⟨rfl, rfl, rfl⟩ := hcs
    exact hw
  obtain ⟨a1, rfl, rfl, rfl, w1⟩ := open_int Try.underlying41 (hval 1 41 v1 rfl rfl) h1
  obtain ⟨a2, rfl, rfl, rfl, w2⟩ := open_int Try.underlying5 (hval 2 5 v2 rfl rfl) h2
  obtain ⟨a3, rfl, rfl, rfl, w3⟩ := open_int Try.underlying5 (hval 3 5 v3 rfl rfl) h3
  clear hA0 hval0
  refine (walk a0 len0 cap0 a1 a2 a3 W w0 w1 w2 w3).mono fun e W' ⟨he, bel⟩ => ?_
  subst he
  exact ⟨_, rfl, _, _, _, [], _, [], hW', trodAll_mk1 (shut_bool Try.underlying4 _), (trodAll_cons_mk (Below.trod laidOut (by kernel_rfl) (of_decide_eq_true (by kernel_rfl)) k0 bel lt0) (trodAll_cons_mk (shut_int Try.underlying41 w1) (trodAll_cons_mk (shut_int Try.underlying5 w2) (trodAll_cons_mk (shut_int Try.underlying5 w3) trodAll_mk0)))), rfl, bel.frame _, fun h => by cases h⟩

theorem over : Rows.runsTwoRow.holds Try.pinned (OpenSpec.ofChange Rows.runsTwoSpec) :=
  OpenClaim.holds_of_wide 9 Try.f9 rfl rfl rfl rfl rfl rfl rfl ⟨rfl, rfl, rfl, rfl, rfl⟩ rfl rfl rfl rfl rfl (by kernel_rfl) Try.func9 (by kernel_rfl)
    (of_decide_eq_true (by kernel_rfl)) (by unfold Func.isWrapper; first | (rw [if_pos (by decide +kernel)]; kernel_rfl) | (rw [if_neg (by decide +kernel)]; exact ⟨rfl, rfl⟩))
    (fun os started H enc _ => lifted os started H enc)

/-- The statement. -/
theorem proved : Rows.RunsTwoSaid := over
#print axioms proved
end Go.Proofs.Ytbmibggjdilhkaa.runsTwo
