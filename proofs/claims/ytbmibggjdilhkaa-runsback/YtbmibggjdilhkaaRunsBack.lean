/-
  RunsBack: what was taken can be given back: the runs are as they were; meanwhile they are right, have so many pages less, and none of those that were taken; for every input the law returns true, and the arguments read behind the call as they read before. No condition.
-/
import Derived.Test.YtbmibggjdilhkaaRows
import Derived.WalkKit
import Derived.ProofKit
import Derived.OpenShut
import Derived.ShutString
import Derived.ChangeOld
import Derived.Below
import Derived.Test.YtbmibggjdilhkaaLaw5
namespace Go.Proofs.Ytbmibggjdilhkaa.runsBack
open Go.ChangeShapes Go.WideShapes Go.ChangeAt Go.RowKit
set_option linter.unusedVariables false

theorem own : ownKnob Try.prog.godebug = none := by kernel_rfl

/-! The walk. -/
set_option maxRecDepth 20000 in
set_option maxHeartbeats 4000000 in
theorem walk (a0 : Option Addr) (len0 cap0 : Nat) (a1 : Int) (w : World) (w0 : IsActs w a0 len0) (w1 : (Lit.int .u8 a1).wf = true) :
    Calls Try.prog 6 #[.slice a0 len0 cap0, .int .u8 a1] w fun e w' => e = .returned (.bool true) ∧ Below w.heap.size w w' := by
  obtain ⟨n, hn, rfl⟩ := u8_nat w1
  clear w1
  obtain ⟨hl0, l, hl, hr⟩ := w0
  have HR := Lib.hid (And.intro hl hr)
  clear hl hr
  go_enter Try.func6, Try.ntmps6
  go_wp2_with fail
  refine (awake_any _).mono ?_
  rintro e w1 ⟨rfl, b1⟩
  have B1 := Lib.hid b1
  clear b1
  go_wp2_with fail
  refine (few_any _ a0 l len0 cap0 HR.out.1 (HR.out.2.below B1.out) hl0).mono ?_
  rintro e w2 ⟨rfl, b2⟩
  have B2 := Lib.hid (below_call B1.out b2)
  clear b2
  obtain ⟨fb, hfb⟩ : ∃ fb, fb = fewB l := ⟨_, rfl⟩
  rw [← hfb]
  cases fb with
  | false =>
    clear hfb
    go_wp2_with fail
    go_ret
    exact ⟨rfl, B2.out⟩
  | true =>
  have hfw := (fewB_iff l).1 hfb.symm
  have HF := Lib.hid hfw
  have hl60 : len0 ≤ 60 := by have := HR.out.1; omega
  clear hfb hfw
  go_wp2_with fail
  refine (take_any _ a0 l len0 cap0 HR.out.1 (HR.out.2.below B2.out) (by omega) HF.out.2 (n : Int)).mono ?_
  rintro e w3 ⟨A3, t3, c3, rfl, ht3, r3, b3, _⟩
  have B3 := Lib.hid (below_call B2.out b3)
  have R3 := Lib.hid (And.intro ht3 r3)
  clear b3 ht3 r3
  obtain ⟨tb, htb⟩ : ∃ tb, tb = takeB l (n : Int) := ⟨_, rfl⟩
  rw [← htb]
  cases tb with
  | false =>
    obtain ⟨e1, e2, e3⟩ := take_none htb.symm
    obtain rfl : t3 = 0 := by rw [R3.out.1, e1]; rfl
    have HN := Lib.hid e3
    clear e1 e2 e3 htb
    generalize takeP l (n : Int) = pp
    go_wp2_with fail
    go_loop [11] (fun i => ∃ k : Nat, k ≤ len0 ∧ i = .int .i64 (k : Int)) (fun i => len0 - (intOf i).toNat)
    case atStart => exact ⟨0, by omega, rfl⟩
    case round =>
      obtain ⟨k, hk, rfl⟩ := hrel
      by_cases hlt : k < len0
      · have hkl : k < l.length := by have := HR.out.1; omega
        obtain ⟨bl, o, rfl, hc⟩ := HR.out.2 (by omega)
        have c1 := (hc k hkl).2
        have d1 := (B3.out.cell (lt_of_cell c1)).trans c1
        have hno : ¬ 0 < n ∨ ¬ ((n : Int) ≤ l[k].n) := by
          rcases HN.out with h | h
          · left; omega
          · right; have := h _ (List.getElem_mem hkl); omega
        obtain ⟨x, hx⟩ : ∃ x, x = l[k].n := ⟨_, rfl⟩
        rw [← hx] at d1 hno
        clear hx c1 hc hkl
        by_cases h1 : 0 < n
        · have h2 : ¬ ((n : Int) ≤ x) := hno.resolve_left (fun h => h h1)
          clear hno
          go_wp2_with fail
          go_round
          case rel => exact ⟨k + 1, by omega, by go_num⟩
          case measure => simp [intOf]; omega
        · clear hno
          go_wp2_with fail
          go_round
          case rel => exact ⟨k + 1, by omega, by go_num⟩
          case measure => simp [intOf]; omega
      · go_wp2_with fail
        go_ret
        exact ⟨rfl, B3.out⟩
  | true =>
  have hbk := back_facts HF.out.2 htb.symm
  have hlen := takeL_length (l := l) (n := (n : Int))
  clear htb
  obtain ⟨p, hp⟩ : ∃ p, p = takeP l (n : Int) := ⟨_, rfl⟩
  obtain ⟨m, hm⟩ : ∃ m, m = takeL l (n : Int) := ⟨_, rfl⟩
  rw [← hp]
  rw [← hp, ← hm] at hbk
  rw [← hm] at R3 hlen
  have HK := Lib.hid hbk
  have HL := Lib.hid (show t3 ≤ 60 by have := R3.out.1; have := HF.out.1; omega)
  clear hp hm hlen
  have hp0 := hbk.2.2.2.2.2.2.2.1
  have hp1 := hbk.2.2.2.2.2.2.2.2.1
  clear hbk
  go_wp2_with fail
  have gv := give_any w3 A3 m t3 c3 R3.out.1 R3.out.2 (by have := HL.out; omega) HK.out.1 1073741824 p (n : Int) (Int.le_refl _) (by omega)
  rw [HK.out.2.2.2.2.2.1, HK.out.2.2.2.2.2.2.1] at gv
  refine gv.mono ?_
  rintro e w4 ⟨A4, t4, c4, rfl, ht4, r4, b4⟩
  clear gv
  have B4 := Lib.hid (below_call B3.out b4)
  have R4 := Lib.hid (And.intro ht4 (And.intro r4 (R3.out.2.below b4)))
  clear b4 ht4 r4
  go_wp2_with fail
  have rt := right_any w4 A3 m t3 c3 R3.out.1 R4.out.2.2 (by have := HL.out; omega) 1073741824 (by omega)
  rw [HK.out.2.1] at rt
  refine rt.mono ?_
  rintro e w5 ⟨rfl, b5⟩
  clear rt
  have B5 := Lib.hid (below_call B4.out b5)
  have R5 := Lib.hid (And.intro (R4.out.2.1.below b5) (R4.out.2.2.below b5))
  clear b5
  go_wp2_with fail
  refine (total_any _ A3 m t3 c3 R3.out.1 R5.out.2 (by have := HL.out; omega) HK.out.1).mono ?_
  rintro e w6 ⟨rfl, b6⟩
  have B6 := Lib.hid (below_call B5.out b6)
  have R6 := Lib.hid (And.intro (R5.out.1.below b6) (R5.out.2.below b6))
  clear b6
  go_wp2_with fail
  refine (total_any _ a0 l len0 cap0 HR.out.1 (HR.out.2.below B6.out) hl0 HF.out.2).mono ?_
  rintro e w7 ⟨rfl, b7⟩
  have B7 := Lib.hid (below_call B6.out b7)
  have R7 := Lib.hid (And.intro (R6.out.1.below b7) (R6.out.2.below b7))
  clear b7
  have tb1 := total_between HF.out.2 (by omega) l.length
  rw [List.take_length] at tb1
  obtain ⟨T, hT⟩ : ∃ T, T = M.total l := ⟨_, rfl⟩
  have htm := HK.out.2.2.1
  rw [← hT] at htm tb1
  rw [← hT, htm]
  have hw : wrap64 (T - (n : Int)) = T - (n : Int) := by unfold wrap64; omega
  clear hT htm tb1
  go_wp2_with fail
  have h1 := has_any w7 A3 m t3 c3 R3.out.1 R7.out.2 (by have := HL.out; omega) HK.out.1 p (n : Int) (by omega) (by omega) (by omega)
  rw [HK.out.2.2.2.1] at h1
  refine h1.mono ?_
  rintro e w8 ⟨rfl, b8⟩
  clear h1
  have B8 := Lib.hid (below_call B7.out b8)
  have R8 := Lib.hid (R7.out.1.below b8)
  clear b8
  go_wp2_with fail
  have h2 := has_any w8 a0 l len0 cap0 HR.out.1 (HR.out.2.below B8.out) hl0 HF.out.2 p (n : Int) (by omega) (by omega) (by omega)
  rw [HK.out.2.2.2.2.1] at h2
  refine h2.mono ?_
  rintro e w9 ⟨rfl, b9⟩
  clear h2
  have B9 := Lib.hid (below_call B8.out b9)
  have R9 := Lib.hid (R8.out.below b9)
  clear b9
  go_wp2_with fail
  refine (same_any _ A4 a0 l l t4 c4 len0 cap0 R4.out.1 HR.out.1 R9.out (HR.out.2.below B9.out) (by have := R4.out.1; have := HR.out.1; omega)).mono ?_
  rintro e w10 ⟨rfl, b10⟩
  have B10 := Lib.hid (below_call B9.out b10)
  clear b10
  have e10 : decide (l = l) = true := by simp
  rw [e10]
  go_wp2_with fail
  go_ret
  exact ⟨rfl, B10.out⟩

/-! The row's step. -/
set_option maxRecDepth 100000 in
theorem lifted (os : Os) (started : os.Started) (H : Type) (enc : TypeId × Value → H) :
    ReturnsInHanded {} Try.checked os 6 .any (Rows.runsBackSpec.pre6 enc Try.prog Try.f6 Rows.runsBackRow.domain false) (Rows.runsBackSpec.post enc Try.prog Try.f6 false true false false) := by
  refine returnsInHanded_of_change (C := Try.checked) own started (by kernel_rfl) Try.func6
    (ChangeSpec.witness6 (enc := enc) (C := Try.checked) false ⟨#[], #[.slice none 0 0, .int .u8 0], []⟩ 8 (by kernel_rfl) (by kernel_rfl) (by kernel_rfl) (by kernel_rfl)) ?_
  intro W base args ds gs before hval0 hW hcnd _
  have hval : ∀ (j : Nat) t v, Try.f6.params[j]? = some t → args[j]? = some v → Value.okWide Try.prog W .any base t v := hval0
  have hW' := hW
  obtain ⟨p, q, hA0, hV, rfl, hfz, hnd⟩ := hW
  have hA : DataW.TrodAll enc Try.prog W 0 (fun _ => true) true Try.f6.params.toList args.toList ds p := hA0
  rw [Try.params6] at hA hval
  obtain ⟨v0, vs0, d0, ds0, p0, q0, hargs, rfl, rfl, h0, r0⟩ := trodAll_cons hA
  obtain ⟨v1, vs1, d1, ds1, p1, q1, rfl, rfl, rfl, h1, r1⟩ := trodAll_cons r0
  obtain ⟨rfl, rfl, rfl⟩ := trodAll_nil r1
  obtain rfl : args = #[v0, v1] := by cases args; simp_all
  obtain ⟨rfl, rfl⟩ := trodVars_none hV
  obtain ⟨a0, len0, cap0, rfl⟩ := okWide_slice Try.underlying22 (hval 0 22 v0 rfl rfl)
  have k0 := h0
  have lt0 : ∀ x ∈ p0, x.block < W.heap.size := by obtain ⟨m, hm⟩ := k0; exact DataW.trod_lt m _ _ _ hm
  have w0 : IsActs W a0 len0 := by
    obtain ⟨fuel, hf⟩ := h0
    obtain ⟨A, l, c, hcs, hw⟩ := acts_open hf
    simp [Value.cells] at hcs
    obtain ⟨rfl, rfl, rfl⟩ := hcs
    exact hw
  obtain ⟨a1, rfl, rfl, rfl, w1⟩ := open_int Try.underlying5 (hval 1 5 v1 rfl rfl) h1
  clear hA0 hval0
  refine (walk a0 len0 cap0 a1 W w0 w1).mono fun e W' ⟨he, bel⟩ => ?_
  subst he
  exact ⟨_, rfl, _, _, _, [], _, [], hW', trodAll_mk1 (shut_bool Try.underlying4 _), (trodAll_cons_mk (Below.trod laidOut (by kernel_rfl) (of_decide_eq_true (by kernel_rfl)) k0 bel lt0) (trodAll_cons_mk (shut_int Try.underlying5 w1) trodAll_mk0)), rfl, bel.frame _, fun h => by cases h⟩

theorem over : Rows.runsBackRow.holds Try.pinned (OpenSpec.ofChange Rows.runsBackSpec) :=
  OpenClaim.holds_of_wide 6 Try.f6 rfl rfl rfl rfl rfl rfl rfl ⟨rfl, rfl, rfl, rfl, rfl⟩ rfl rfl rfl rfl rfl (by kernel_rfl) Try.func6 (by kernel_rfl)
    (of_decide_eq_true (by kernel_rfl)) (by unfold Func.isWrapper; first | (rw [if_pos (by decide +kernel)]; kernel_rfl) | (rw [if_neg (by decide +kernel)]; exact ⟨rfl, rfl⟩))
    (fun os started H enc _ => lifted os started H enc)

/-- The statement. -/
theorem proved : Rows.RunsBackSaid := over
#print axioms proved
end Go.Proofs.Ytbmibggjdilhkaa.runsBack
