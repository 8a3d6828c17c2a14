/-
  CacheLast is true whatever the input: what is pushed on a class is popped the last one first, whatever is done to other classes between; no conditions.
-/
import Derived.Test.YteiiiapjloincaaRows
import Derived.WalkKit
import Derived.ProofKit
import Derived.OpenShut
import Derived.ShutString
import Derived.ChangeOld
import Derived.Below
import Derived.Test.YteiiiapjloincaaArg9
import Derived.Test.YteiiiapjloincaaL9
namespace Go.Proofs.Yteiiiapjloincaa.cacheLast
open Go.ChangeShapes Go.WideShapes Go.ChangeAt Go.RowKit
set_option linter.unusedVariables false

theorem own : ownKnob Try.prog.godebug = none := by kernel_rfl

/-! The walk. -/
set_option maxRecDepth 20000 in
set_option maxHeartbeats 8000000 in
theorem walk (a0 : Int) (a1 : Option Addr) (len1 cap1 : Nat) (z1 : List Int) (a2 : Int) (w : World) (w0 : (Lit.int .u8 a0).wf = true) (w1 : IsRow .u8 w a1 len1 cap1 z1) (w2 : (Lit.int .u8 a2).wf = true) :
    Calls Try.prog 4 #[.int .u8 a0, .slice a1 len1 cap1, .int .u8 a2] w fun e w' => e = .returned (.bool true) ∧ Below w.heap.size w w' := by
  obtain ⟨n0, hn0, rfl⟩ := u8_nat w0
  obtain ⟨n2, hn2, rfl⟩ := u8_nat w2
  obtain ⟨ps, hps, hpl⟩ := row_u8 w1
  have HL := Lib.hid (And.intro hps hpl)
  clear w0 w1 w2 hps hpl
  go_enter Try.func4, Try.ntmps4
  go_wp2_with fail
  refine (awake_any _).mono ?_
  rintro e w1 ⟨rfl, b1⟩
  have B1 := Lib.hid b1
  clear b1
  by_cases h10 : 10 < len1
  · have d1 : decide ((10 : Int) < (len1 : Int)) = true := by simp; omega
    clear h10
    go_wp2_with fail
    go_ret
    exact ⟨rfl, B1.out⟩
  have d1 : decide ((10 : Int) < (len1 : Int)) = false := by simp; omega
  go_wp2_with fail
  refine (k_new B1.out).mono ?_
  rintro e w2 ⟨g, rfl, k2, _, _⟩
  have K2 := Lib.hid k2
  clear k2
  obtain ⟨c, hc⟩ : ∃ c : Int, (n0 : Int) % 7 = c := ⟨_, rfl⟩
  obtain ⟨o, ho⟩ : ∃ o : Int, (n2 : Int) % 7 = o := ⟨_, rfl⟩
  have c0 : 0 ≤ c := by omega
  have c7 : c < 7 := by omega
  have o0 : 0 ≤ o := by omega
  have o7 : o < 7 := by omega
  rw [hc, ho]
  have C0 := Lib.hid (And.intro c0 c7)
  clear hc ho c0 c7 o0 o7
  obtain ⟨xs, hxs⟩ : ∃ xs, xs = M.ints8 ps := ⟨_, rfl⟩
  have hxl : xs.length = len1 := by rw [hxs, M.ints8_length]; exact HL.out.1.symm
  have HX := Lib.hid (And.intro hxs hxl)
  clear hxs hxl
  go_wp2_with fail
  go_loopw [11, 12, 13] (fun n i _ wr => ∃ (m : Nat) (q : Nat) (f : M.Ky), m ≤ len1 ∧ q = min m 4 ∧ i = .int .i64 (m : Int) ∧ n = .int .i64 (q : Int) ∧ f c = xs.take q ∧ Kp w wr g f) (fun n i _ _ => len1 - (intOf i).toNat)
  case atStart => exact ⟨0, 0, _, by omega, rfl, rfl, rfl, rfl, K2.out⟩
  case round =>
    obtain ⟨m, q, f, hm, hq, rfl, rfl, hf, hk⟩ := hrel
    have HS := Lib.hid (And.intro hk (And.intro hf hq))
    have hq4 : q ≤ 4 := by omega
    clear hf hk hq
    by_cases hlt : m < len1
    · have hml : m < ps.length := by have := HL.out.1; omega
      obtain ⟨ad, rfl, hcell⟩ := (HL.out.2.below HS.out.1.bel) (by rw [u8s_length]; omega)
      have hcm := hcell m (by rw [u8s_length]; omega)
      simp only [u8s, List.getElem_map] at hcm
      obtain ⟨x, hx⟩ : ∃ x, x = ps[m].toNat := ⟨_, rfl⟩
      have hx256 : x < 256 := by rw [hx]; exact ps[m].toNat_lt
      rw [← hx] at hcm
      have hmx : m < xs.length := by rw [HX.out.2]; exact hlt
      have hxx : xs[m] = (x : Int) := by
        have h1 := HX.out.1
        subst h1
        rw [M.ints8_at, hx]
      have st := M.last_step (f := f) C0.out.1 C0.out.2 hmx hxx (by omega) (by rw [HS.out.2.1, HS.out.2.2])
      have ST := Lib.hid st
      clear hcell hx hml hxx hmx st
      obtain ⟨b, hb⟩ : ∃ b, b = decide (m < 4) := ⟨_, rfl⟩
      have HB := Lib.hid hb
      clear hb
      go_wp2_with fail
      refine (k_push HS.out.1 c x).mono ?_
      rintro e w4 ⟨rfl, k4, _⟩
      rw [ST.out.1, ← HB.out]
      have K4 := Lib.hid (And.intro k4 ST.out.2)
      clear k4 hcm
      obtain ⟨f4, hf4⟩ : ∃ f4, f4 = M.pushF f c x := ⟨_, rfl⟩
      rw [← hf4] at K4
      clear hf4
      cases b with
      | true =>
        have hm4 : m < 4 := by simpa using HB.out.symm
        have hq1 : q + 1 = min (m + 1) 4 := by have := HS.out.2.2; omega
        have d4 : decide ((m : Int) < 4) = true := by simp; omega
        rw [← hq1] at K4
        have HQ1 := Lib.hid hq1
        clear hq1
        by_cases eo : o = c
        · subst eo
          go_wp2_with fail
          go_roundw
          case rel => exact ⟨m + 1, q + 1, f4, by omega, HQ1.out, by go_num, by go_num, K4.out.2, K4.out.1⟩
          case measure => simp [intOf]; omega
        · have NE := Lib.hid eo
          go_wp2_with fail
          refine (k_push K4.out.1 o m).mono ?_
          rintro e w5 ⟨rfl, k5, _⟩
          have K5 := Lib.hid (And.intro k5 ((M.pushF_ne (f := f4) (c := o) (p := (m : Int)) (d := c) (fun e => NE.out e.symm)).trans K4.out.2))
          clear k5
          obtain ⟨f5, hf5⟩ : ∃ f5, f5 = M.pushF f4 o m := ⟨_, rfl⟩
          rw [← hf5] at K5
          clear hf5
          by_cases hodd : m % 2 = 1
          · have dd : ((m : Int) % 2 == 1) = true := by simp; omega
            go_wp2_with fail
            refine (k_pop K5.out.1 o).mono ?_
            rintro e w6 ⟨rfl, k6, _⟩
            have K6 := Lib.hid (And.intro k6 ((M.popF_ne (f := f5) (c := o) (d := c) (fun e => NE.out e.symm)).trans K5.out.2))
            clear k6
            go_wp2_with fail
            go_roundw
            case rel => exact ⟨m + 1, q + 1, _, by omega, HQ1.out, by go_num, by go_num, K6.out.2, K6.out.1⟩
            case measure => simp [intOf]; omega
          · have dd : ((m : Int) % 2 == 1) = false := by simp; omega
            go_wp2_with fail
            go_roundw
            case rel => exact ⟨m + 1, q + 1, _, by omega, HQ1.out, by go_num, by go_num, K5.out.2, K5.out.1⟩
            case measure => simp [intOf]; omega
      | false =>
        have hm4 : ¬ m < 4 := by simpa using HB.out.symm
        have hq1 : q = min (m + 1) 4 := by have := HS.out.2.2; omega
        have d4 : decide ((m : Int) < 4) = false := by simp; omega
        rw [← hq1] at K4
        have HQ1 := Lib.hid hq1
        clear hq1
        by_cases eo : o = c
        · subst eo
          go_wp2_with fail
          go_roundw
          case rel => exact ⟨m + 1, q, f4, by omega, HQ1.out, by go_num, rfl, K4.out.2, K4.out.1⟩
          case measure => simp [intOf]; omega
        · have NE := Lib.hid eo
          go_wp2_with fail
          refine (k_push K4.out.1 o m).mono ?_
          rintro e w5 ⟨rfl, k5, _⟩
          have K5 := Lib.hid (And.intro k5 ((M.pushF_ne (f := f4) (c := o) (p := (m : Int)) (d := c) (fun e => NE.out e.symm)).trans K4.out.2))
          clear k5
          obtain ⟨f5, hf5⟩ : ∃ f5, f5 = M.pushF f4 o m := ⟨_, rfl⟩
          rw [← hf5] at K5
          clear hf5
          by_cases hodd : m % 2 = 1
          · have dd : ((m : Int) % 2 == 1) = true := by simp; omega
            go_wp2_with fail
            refine (k_pop K5.out.1 o).mono ?_
            rintro e w6 ⟨rfl, k6, _⟩
            have K6 := Lib.hid (And.intro k6 ((M.popF_ne (f := f5) (c := o) (d := c) (fun e => NE.out e.symm)).trans K5.out.2))
            clear k6
            go_wp2_with fail
            go_roundw
            case rel => exact ⟨m + 1, q, _, by omega, HQ1.out, by go_num, rfl, K6.out.2, K6.out.1⟩
            case measure => simp [intOf]; omega
          · have dd : ((m : Int) % 2 == 1) = false := by simp; omega
            go_wp2_with fail
            go_roundw
            case rel => exact ⟨m + 1, q, _, by omega, HQ1.out, by go_num, rfl, K5.out.2, K5.out.1⟩
            case measure => simp [intOf]; omega
    · have HQL := Lib.hid (show q ≤ len1 by have := HS.out.2.2; omega)
      have ws : wrap64 ((q : Int) - 1) = (q : Int) - 1 := by have := HS.out.2.2; unfold wrap64; omega
      have HK := Lib.hid (And.intro HS.out.1 HS.out.2.1)
      have hql : q ≤ len1 := HQL.out
      clear HS HQL
      go_wp2_with fail
      clear ws hlt hm
      go_loopw [14, 15, 16] (fun i _ _ wq => ∃ (m : Nat) (z : Int) (f : M.Ky), m ≤ q ∧ z = (m : Int) - 1 ∧ i = .int .i64 z ∧ f c = xs.take m ∧ Kp w wq g f) (fun i _ _ _ => (intOf i + 1).toNat)
      case atStart => exact ⟨q, _, _, by omega, rfl, rfl, HK.out.2, HK.out.1⟩
      case round =>
        obtain ⟨j, z, f1, hj, hz, rfl, hf1, hk1⟩ := hrel
        have KK := Lib.hid (And.intro hk1 hf1)
        clear hk1 hf1 HK
        rcases Nat.eq_zero_or_pos j with h0 | h0
        · subst h0
          have ez : z = -1 := by omega
          subst ez
          have pn := M.pop_nil (f := f1) (c := c) (by rw [KK.out.2]; rfl)
          have PN := Lib.hid pn
          clear hz pn
          go_wp2_with fail
          refine (k_pop KK.out.1 c).mono ?_
          rintro e w5 ⟨rfl, k5, _⟩
          rw [PN.out.1, PN.out.2]
          have K5 := Lib.hid k5
          clear k5
          go_wp2_with fail
          go_ret
          exact ⟨rfl, K5.out.bel⟩
        · obtain ⟨y, rfl⟩ : ∃ y, j = y + 1 := ⟨j - 1, by omega⟩
          have ez : z = (y : Int) := by omega
          subst ez
          have hyl : y < len1 := by omega
          have hml : y < ps.length := by have := HL.out.1; omega
          obtain ⟨ad, rfl, hcell⟩ := HL.out.2 (by rw [u8s_length]; omega)
          have hcm := hcell y (by rw [u8s_length]; omega)
          simp only [u8s, List.getElem_map] at hcm
          obtain ⟨x, hx⟩ : ∃ x, x = ps[y].toNat := ⟨_, rfl⟩
          have hx256 : x < 256 := by rw [hx]; exact ps[y].toNat_lt
          rw [← hx] at hcm
          have hmx : y < xs.length := by rw [HX.out.2]; exact hyl
          have hxx : xs[y] = (x : Int) := by
            have h1 := HX.out.1
            subst h1
            rw [M.ints8_at, hx]
          have pp := M.last_pop (f := f1) (c := c) hmx KK.out.2
          rw [hxx] at pp
          have ll : ((M.popF f1 c) c).length = y := by rw [pp.2.2, List.length_take]; omega
          have PP := Lib.hid (And.intro pp ll)
          have HC := Lib.hid hcm
          clear hcell hx hml hxx hmx pp ll hz h0 hcm
          go_wp2_with fail
          refine (k_pop KK.out.1 c).mono ?_
          rintro e w5 ⟨rfl, k5, _⟩
          rw [PP.out.1.1, PP.out.1.2.1]
          have K5 := Lib.hid k5
          have hcm := (k5.bel.cell (lt_of_cell HC.out)).trans HC.out
          clear k5
          go_wp2_with fail
          refine (k_len K5.out c).mono ?_
          rintro e w6 ⟨rfl, rfl⟩
          rw [PP.out.2]
          go_wp2_with fail
          go_roundw
          case rel => exact ⟨y, _, _, by omega, rfl, by go_num, PP.out.1.2.2, K5.out⟩
          case measure => simp [intOf]

/-! The row's step. -/
set_option maxRecDepth 100000 in
theorem lifted (os : Os) (started : os.Started) (H : Type) (enc : TypeId × Value → H) :
    ReturnsInHanded {} Try.checked os 4 .any (Rows.cacheLastSpec.pre6 enc Try.prog Try.f4 Rows.cacheLastRow.domain false) (Rows.cacheLastSpec.post enc Try.prog Try.f4 false true false false) := by
  refine returnsInHanded_of_change (C := Try.checked) own started (by kernel_rfl) Try.func4
    (ChangeSpec.witness6 (enc := enc) (C := Try.checked) false ⟨#[], #[.int .u8 0, .slice none 0 0, .int .u8 0], []⟩ 8 (by kernel_rfl) (by kernel_rfl) (by kernel_rfl) (by kernel_rfl)) ?_
  intro W base args ds gs before hval0 hW hcnd _
  have hval : ∀ (j : Nat) t v, Try.f4.params[j]? = some t → args[j]? = some v → Value.okWide Try.prog W .any base t v := hval0
  have hW' := hW
  obtain ⟨p, q, hA0, hV, rfl, hfz, hnd⟩ := hW
  have hA : DataW.TrodAll enc Try.prog W 0 (fun _ => true) true Try.f4.params.toList args.toList ds p := hA0
  rw [Try.params4] at hA hval
  obtain ⟨v0, vs0, d0, ds0, p0, q0, hargs, rfl, rfl, h0, r0⟩ := trodAll_cons hA
  obtain ⟨v1, vs1, d1, ds1, p1, q1, rfl, rfl, rfl, h1, r1⟩ := trodAll_cons r0
  obtain ⟨v2, vs2, d2, ds2, p2, q2, rfl, rfl, rfl, h2, r2⟩ := trodAll_cons r1
  obtain ⟨rfl, rfl, rfl⟩ := trodAll_nil r2
  obtain rfl : args = #[v0, v1, v2] := by cases args; simp_all
  obtain ⟨rfl, rfl⟩ := trodVars_none hV
  obtain ⟨a0, rfl, rfl, rfl, w0⟩ := open_int Try.underlying5 (hval 0 5 v0 rfl rfl) h0
  obtain ⟨a1, len1, cap1, rfl⟩ := okWide_slice Try.underlying51 (hval 1 51 v1 rfl rfl)
  have k1 := h1
  have lt1 : ∀ x ∈ p1, x.block < W.heap.size := by obtain ⟨m, hm⟩ := k1; exact DataW.trod_lt m _ _ _ hm
  obtain ⟨z1, w1⟩ : ∃ zs, IsRow .u8 W a1 len1 cap1 zs := by
    obtain ⟨fuel, hf⟩ := h1
    rcases open_ints Try.underlying51 Try.underlying5 (by kernel_rfl) hf with ⟨hcs, _⟩ | ⟨x, l, c, zs, hcs, _, hl, hm, hz, _, hcell, hwz⟩
    · simp [Value.cells] at hcs
      obtain ⟨rfl, rfl, rfl⟩ := hcs
      exact ⟨[], .inl ⟨rfl, rfl, rfl, rfl⟩⟩
    · simp [Value.cells] at hcs
      obtain ⟨rfl, rfl, rfl⟩ := hcs
      exact ⟨zs, .inr ⟨_, rfl, hl, hm, by simpa using hz, hcell, hwz⟩⟩
  obtain ⟨a2, rfl, rfl, rfl, w2⟩ := open_int Try.underlying5 (hval 2 5 v2 rfl rfl) h2
  clear hA0 hval0
  refine (walk a0 a1 len1 cap1 z1 a2 W w0 w1 w2).mono fun e W' ⟨he, bel⟩ => ?_
  subst he
  exact ⟨_, rfl, _, _, _, [], _, [], hW', trodAll_mk1 (shut_bool Try.underlying4 _), (trodAll_cons_mk (shut_int Try.underlying5 w0) (trodAll_cons_mk (Below.trod laidOut (by kernel_rfl) (of_decide_eq_true (by kernel_rfl)) k1 bel lt1) (trodAll_cons_mk (shut_int Try.underlying5 w2) trodAll_mk0))), rfl, bel.frame _, fun h => by cases h⟩

theorem over : Rows.cacheLastRow.holds Try.pinned (OpenSpec.ofChange Rows.cacheLastSpec) :=
  OpenClaim.holds_of_wide 4 Try.f4 rfl rfl rfl rfl rfl rfl rfl ⟨rfl, rfl, rfl, rfl, rfl⟩ rfl rfl rfl rfl rfl (by kernel_rfl) Try.func4 (by kernel_rfl)
    (of_decide_eq_true (by kernel_rfl)) (by unfold Func.isWrapper; first | (rw [if_pos (by decide +kernel)]; kernel_rfl) | (rw [if_neg (by decide +kernel)]; exact ⟨rfl, rfl⟩))
    (fun os started H enc _ => lifted os started H enc)

/-- The statement. -/
theorem proved : Rows.CacheLastSaid := over
#print axioms proved
end Go.Proofs.Yteiiiapjloincaa.cacheLast
