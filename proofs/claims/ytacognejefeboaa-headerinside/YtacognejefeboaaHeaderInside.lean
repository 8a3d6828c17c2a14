/-
  HeaderInside is true whatever the input: what stands behind a header, in its page, plays no part, and isn't changed; no conditions.
-/
import Derived.Test.YtacognejefeboaaRows
import Derived.WalkKit
import Derived.ProofKit
import Derived.OpenShut
import Derived.ShutString
import Derived.ChangeOld
import Derived.Below
import Derived.Test.YtacognejefeboaaL8
namespace Go.Proofs.Ytacognejefeboaa.headerInside
open Go.ChangeShapes Go.WideShapes Go.ChangeAt Go.RowKit
set_option linter.unusedVariables false

theorem own : ownKnob Try.prog.godebug = none := by kernel_rfl

/-! The walk. -/
set_option maxRecDepth 20000 in
set_option maxHeartbeats 8000000 in
theorem walk (a0 : Int) (x1 : HeadD) (a2 : Option Addr) (len2 cap2 : Nat) (z2 : List Int) (a3 : Int) (w : World) (w0 : (Lit.int .u8 a0).wf = true) (w1 : HeadOk x1) (w2 : IsRow .u8 w a2 len2 cap2 z2) (w3 : (Lit.int .u64 a3).wf = true) :
    Calls Try.prog 5 #[.int .u8 a0, hv x1.p x1.k x1.o x1.n, .slice a2 len2 cap2, .int .u64 a3] w fun e w' => e = .returned (.bool true) ∧ Below w.heap.size w w' := by
  obtain ⟨pg, hpg, rfl⟩ := u8_nat w0
  obtain ⟨next, hnext, rfl⟩ := u64_nat w3
  obtain ⟨p, k, o, n⟩ := x1
  have hok := w1
  have hbt := row_top w2
  obtain ⟨xs, hxs, hlies⟩ := row_u8 w2
  have hcap := row_u8c w2
  have HL := Lib.hid (And.intro hxs (And.intro hlies hok))
  clear w0 w1 w2 w3 hxs hlies hok
  have b1 := below_new w (.cells #[.int .i64 p, .int .i64 k, .int .u64 (o : Int), .int .u64 (n : Int)] 33)
  have x1 := Box4.new w 33 (.int .i64 p) (.int .i64 k) (.int .u64 (o : Int)) (.int .u64 (n : Int))
  have HB := Lib.hid (fun w1 (h : Below _ _ w1) => And.intro (below_call b1 h) (x1.below h))
  clear x1 b1
  go_enter Try.func5, Try.ntmps5
  go_wp2_with fail
  refine (awake_any _).mono ?_
  rintro e w1 ⟨rfl, bb⟩
  have x2 := (HB.out _ bb).2
  have H1 := Lib.hid (HB.out _ bb)
  generalize hg : w.heap.size = g5 at x2 ⊢
  rw [hg] at H1
  have HG := Lib.hid hg
  have c0 := x2.c0
  have c1 := x2.c1
  clear x2 bb HB hg
  by_cases hr : len2 ≤ 200 ∧ M.right p k = true
  · obtain ⟨hl2, hr⟩ := hr
    obtain ⟨pn, kn, rfl, rfl, hr⟩ := right_nat hr
    have hpk := (M.right_iff _ _).1 hr
    have d0 : decide ((200 : Int) < (len2 : Int)) = false := by simp; omega
    have d1 : decide ((pn : Int) < 1) = false := by simp; omega
    have d2 : decide ((1048576 : Int) < (pn : Int)) = false := by simp; omega
    have d3 : decide ((kn : Int) < 0) = false := by simp
    have d4 : decide ((255 : Int) < (kn : Int)) = false := by simp; omega
    have HR := Lib.hid (And.intro hr (And.intro HL.out.2.2.o HL.out.2.2.n))
    clear hr hpk
    go_wp2_with fail
    clear d0 d1 d2 d3 d4 c0 c1
    refine (at_new (Below.refl w1.heap.size w1) 256 256 (by decide)).mono ?_
    rintro e w2 ⟨s, O2, rfl, A2⟩
    have H2 := Lib.hid A2
    clear A2
    obtain ⟨q, hq⟩ : ∃ q, q = pg * 4096 + 32 := ⟨_, rfl⟩
    have hq2 : (pg : Int) * 4096 + 32 = (q : Int) := by omega
    have HQ := Lib.hid hq
    have hqb : q + 200 ≤ 256 * 4096 := by omega
    clear hq
    go_wp2_with fail
    have lb : ∀ ad, 0 < xs.length → a2 = some ad → ad.block < w.heap.size := fun ad h0 e => lies_low HL.out.2.1 h0 ad e
    have bw1 : Below w.heap.size w w1 := by rw [HG.out]; exact H1.out.1
    have HW := Lib.hid (And.intro bw1 lb)
    have l2 := (HL.out.2.1.below bw1).below H2.out.bel
    have et : M.touched q len2 = 1 := by rw [M.touched_one]; have := HQ.out; omega
    refine (at_store H2.out q len2 cap2 a2 xs HL.out.1 l2 hcap (fun h0 ad e hO => by have := HW.out.2 ad h0 e; have := H2.out.old _ hO; have := HW.out.1.size; omega) (by omega) (by omega) (by omega)).mono ?_
    rintro e w3 ⟨rfl, A3, k3⟩
    rw [et] at A3
    have r3 := M.rd_wr (fun _ => 0) q xs
    rw [← HL.out.1] at r3
    have x3 := H1.out.2.below A3.bel
    generalize M.wr (fun _ => 0) q xs = f3 at *
    have H3 := Lib.hid (And.intro A3 r3)
    generalize Wid O2 w2 w3 = O3 at *
    have c0 := x3.c0
    have c1 := x3.c1
    have c2 := x3.c2
    have c3 := x3.c3
    clear A3 r3 k3 x3 H2 lb bw1 l2
    go_wp2_with fail
    refine (write_hd H3.out.1 pg pg pn kn pn kn o n rfl hpg rfl rfl HR.out.1 HR.out.2.1 HR.out.2.2 (by omega)).mono ?_
    rintro e w4 ⟨rfl, A4, k4⟩
    have st := Stands.written f3 pg pn kn o n HR.out.1 HR.out.2.1 HR.out.2.2
    have r4 := M.rd_wr_apart f3 (pg * 4096) (M.hd pn kn o n) q len2 (Or.inr (by rw [M.hd_length]; have := HQ.out; omega))
    rw [H3.out.2] at r4
    generalize M.wr f3 (pg * 4096) (M.hd pn kn o n) = f4 at *
    have H4 := Lib.hid (And.intro A4 (And.intro st r4))
    generalize Wid O3 w3 w4 = O4 at *
    clear A4 st r4 k4 H3 c0 c1 c2 c3
    go_wp2_with fail
    refine (link_hd H4.out.1 pg pg next rfl hpg H4.out.2.1.isH hnext (by omega)).mono ?_
    rintro e w5 ⟨rfl, A5, k5⟩
    have st := H4.out.2.1.linked next hnext
    have r5 := M.rd_wr_apart f4 (pg * 4096 + 24) (M.enc 8 next) q len2 (Or.inr (by rw [M.enc_length]; have := HQ.out; omega))
    rw [H4.out.2.2] at r5
    generalize M.wr f4 (pg * 4096 + 24) (M.enc 8 next) = f5 at *
    have H5 := Lib.hid (And.intro A5 (And.intro st r5))
    generalize Wid O4 w4 w5 = O5 at *
    clear A5 st r5 k5 H4
    go_wp2_with fail
    refine (read_hd H5.out.1 pg pg pn kn o next rfl hpg H5.out.2.1 (by omega)).mono ?_
    rintro e w6 ⟨rfl, A6, k6⟩
    have x7 := Box4.new w6 33 (.int .i64 (pn : Int)) (.int .i64 (kn : Int)) (.int .u64 (o : Int)) (.int .u64 (next : Int))
    have b7 := below_new w6 (.cells #[.int .i64 (pn : Int), .int .i64 (kn : Int), .int .u64 (o : Int), .int .u64 (next : Int)] 33)
    have hO : ∀ c, O5 c → c < w6.heap.size := fun c hc => A6.sp.lt hc
    have hn15 : ¬ O5 w6.heap.size := fun e => by have := hO _ e; omega
    have H7 := Lib.hid (And.intro (A6.same b7) (And.intro x7 hn15))
    clear A6 k6 b7 x7 hO hn15
    go_upto_region 12 with fail
    generalize w6.alloc (.cells #[.int .i64 (pn : Int), .int .i64 (kn : Int), .int .u64 (o : Int), .int .u64 (next : Int)] 33) = w7 at *
    generalize w6.heap.size = g15 at *
    go_wp2_with fail
    refine (at_load H7.out.1 q len2 (by omega) (by omega) (by omega)).mono ?_
    rintro e w8 ⟨gy, rfl, A8, L8, k8, _, _⟩
    rw [et] at A8
    rw [H5.out.2.2] at L8
    have H8 := Lib.hid (And.intro A8 (And.intro L8 (H7.out.2.1.kept k8 H7.out.2.2)))
    clear A8 L8 k8
    go_wp2_with fail
    refine (clear_hd H8.out.1 pg pg rfl hpg H5.out.2.1.isH (by omega)).mono ?_
    rintro e w9 ⟨rfl, A9, k9⟩
    have r9 := M.rd_zr_apart f5 (pg * 4096) 32 q len2 (Or.inr (by have := HQ.out; omega))
    rw [H5.out.2.2] at r9
    generalize M.zr f5 (pg * 4096) 32 = f9 at *
    have L9 := H8.out.2.1.wid k9
    have x9 := H8.out.2.2.kept k9 H7.out.2.2
    have hn9 : ¬ Wid O5 w8 w9 g15 := fun e => e.elim H7.out.2.2 (fun e => by have := H8.out.2.2.lt; omega)
    generalize Wid O5 w8 w9 = O9 at *
    have H9 := Lib.hid (And.intro A9 (And.intro r9 (And.intro L9 (And.intro x9 hn9))))
    clear A9 r9 k9 L9 x9 hn9 H8 H7
    go_wp2_with fail
    refine (at_load H9.out.1 q len2 (by omega) (by omega) (by omega)).mono ?_
    rintro e w10 ⟨gz, rfl, A10, L10, k10, _, _⟩
    rw [H9.out.2.1] at L10
    have L10y := H9.out.2.2.1.kept k10
    have x10 := H9.out.2.2.2.1.kept k10 H9.out.2.2.2.2
    have y10 := H1.out.2.below A10.bel
    have cz := L10.conv len2 len2 HL.out.1
    have cy := L10y.conv len2 len2 HL.out.1
    have cb := conv_at w10 a2 len2 xs cap2 HL.out.1 ((HL.out.2.1.below HW.out.1).below A10.bel)
    have H10 := Lib.hid A10.bel
    have c2 := x10.c2
    have c3 := x10.c3
    have e2 := y10.c2
    clear A10 L10 k10 L10y x10 y10 H9 hq2 hqb et
    go_wp2_with fail
    go_ret
    refine ⟨rfl, below_call HW.out.1 H10.out⟩
  · have bw1 : Below w.heap.size w w1 := by rw [HG.out]; exact H1.out.1
    have H2 := Lib.hid bw1
    clear bw1 H1 HG HL
    by_cases h0 : 200 < len2
    · have d0 : decide ((200 : Int) < (len2 : Int)) = true := by simp; omega
      clear h0 hr
      go_wp2_with fail
      go_ret
      exact ⟨rfl, H2.out⟩
    have d0 : decide ((200 : Int) < (len2 : Int)) = false := by simp; omega
    have hr' := (M.right_not p k).1 (by
      cases h : M.right p k with
      | true => exact absurd ⟨by omega, h⟩ hr
      | false => rfl)
    clear hr h0
    by_cases h1 : p < 1
    · have d1 : decide (p < 1) = true := by simpa using h1
      clear h1 hr'
      go_wp2_with fail
      go_ret
      exact ⟨rfl, H2.out⟩
    · have d1 : decide (p < 1) = false := by simpa using h1
      by_cases h2 : 1048576 < p
      · have d2 : decide (1048576 < p) = true := by simpa using h2
        clear h1 h2 hr'
        go_wp2_with fail
        go_ret
        exact ⟨rfl, H2.out⟩
      · have d2 : decide (1048576 < p) = false := by simpa using h2
        by_cases h3 : k < 0
        · have d3 : decide (k < 0) = true := by simpa using h3
          clear h1 h2 h3 hr'
          go_wp2_with fail
          go_ret
          exact ⟨rfl, H2.out⟩
        · have d3 : decide (k < 0) = false := by simpa using h3
          have d4 : decide (255 < k) = true := by simp; omega
          clear h1 h2 h3 hr'
          go_wp2_with fail
          go_ret
          exact ⟨rfl, H2.out⟩

/-! The row's step. -/
set_option maxRecDepth 100000 in
theorem lifted (os : Os) (started : os.Started) (H : Type) (enc : TypeId × Value → H) :
    ReturnsInHanded {} Try.checked os 5 .any (Rows.headerInsideSpec.pre6 enc Try.prog Try.f5 Rows.headerInsideRow.domain false) (Rows.headerInsideSpec.post enc Try.prog Try.f5 false true false false) := by
  refine returnsInHanded_of_change (C := Try.checked) own started (by kernel_rfl) Try.func5
    (ChangeSpec.witness6 (enc := enc) (C := Try.checked) false ⟨#[], #[.int .u8 0, .agg #[.int .i64 0, .int .i64 0, .int .u64 0, .int .u64 0], .slice none 0 0, .int .u64 0], []⟩ 8 (by kernel_rfl) (by kernel_rfl) (by kernel_rfl) (by kernel_rfl)) ?_
  intro W base args ds gs before hval0 hW hcnd _
  have hval : ∀ (j : Nat) t v, Try.f5.params[j]? = some t → args[j]? = some v → Value.okWide Try.prog W .any base t v := hval0
  have hW' := hW
  obtain ⟨p, q, hA0, hV, rfl, hfz, hnd⟩ := hW
  have hA : DataW.TrodAll enc Try.prog W 0 (fun _ => true) true Try.f5.params.toList args.toList ds p := hA0
  rw [Try.params5] at hA hval
  obtain ⟨v0, vs0, d0, ds0, p0, q0, hargs, rfl, rfl, h0, r0⟩ := trodAll_cons hA
  obtain ⟨v1, vs1, d1, ds1, p1, q1, rfl, rfl, rfl, h1, r1⟩ := trodAll_cons r0
  obtain ⟨v2, vs2, d2, ds2, p2, q2, rfl, rfl, rfl, h2, r2⟩ := trodAll_cons r1
  obtain ⟨v3, vs3, d3, ds3, p3, q3, rfl, rfl, rfl, h3, r3⟩ := trodAll_cons r2
  obtain ⟨rfl, rfl, rfl⟩ := trodAll_nil r3
  obtain rfl : args = #[v0, v1, v2, v3] := by cases args; simp_all
  obtain ⟨rfl, rfl⟩ := trodVars_none hV
  obtain ⟨a0, rfl, rfl, rfl, w0⟩ := open_int Try.underlying5 (hval 0 5 v0 rfl rfl) h0
  have k1 := h1
  have lt1 : ∀ x ∈ p1, x.block < W.heap.size := by obtain ⟨m, hm⟩ := k1; exact DataW.trod_lt m _ _ _ hm
  obtain ⟨x1, w1, rfl⟩ := head_open (hval 1 33 v1 rfl rfl) h1
  obtain ⟨a2, len2, cap2, rfl⟩ := okWide_slice Try.underlying34 (hval 2 34 v2 rfl rfl)
  have k2 := h2
  have lt2 : ∀ x ∈ p2, x.block < W.heap.size := by obtain ⟨m, hm⟩ := k2; exact DataW.trod_lt m _ _ _ hm
  obtain ⟨z2, w2⟩ : ∃ zs, IsRow .u8 W a2 len2 cap2 zs := by
    obtain ⟨fuel, hf⟩ := h2
    rcases open_ints Try.underlying34 Try.underlying5 (by kernel_rfl) hf with ⟨hcs, _⟩ | ⟨x, l, c, zs, hcs, _, hl, hm, hz, _, hcell, hwz⟩
    · simp [Value.cells] at hcs
      obtain ⟨rfl, rfl, rfl⟩ := hcs
      exact ⟨[], .inl ⟨rfl, rfl, rfl, rfl⟩⟩
    · simp [Value.cells] at hcs
      obtain ⟨rfl, rfl, rfl⟩ := hcs
      exact ⟨zs, .inr ⟨_, rfl, hl, hm, by simpa using hz, hcell, hwz⟩⟩
  obtain ⟨a3, rfl, rfl, rfl, w3⟩ := open_int Try.underlying31 (hval 3 31 v3 rfl rfl) h3
  clear hA0 hval0
  refine (walk a0 x1 a2 len2 cap2 z2 a3 W w0 w1 w2 w3).mono fun e W' ⟨he, bel⟩ => ?_
  subst he
  exact ⟨_, rfl, _, _, _, [], _, [], hW', trodAll_mk1 (shut_bool Try.underlying4 _), (trodAll_cons_mk (shut_int Try.underlying5 w0) (trodAll_cons_mk (Below.trod laidOut (by kernel_rfl) (of_decide_eq_true (by kernel_rfl)) k1 bel lt1) (trodAll_cons_mk (Below.trod laidOut (by kernel_rfl) (of_decide_eq_true (by kernel_rfl)) k2 bel lt2) (trodAll_cons_mk (shut_int Try.underlying31 w3) trodAll_mk0)))), rfl, bel.frame _, fun h => by cases h⟩

theorem over : Rows.headerInsideRow.holds Try.pinned (OpenSpec.ofChange Rows.headerInsideSpec) :=
  OpenClaim.holds_of_wide 5 Try.f5 rfl rfl rfl rfl rfl rfl rfl ⟨rfl, rfl, rfl, rfl, rfl⟩ rfl rfl rfl rfl rfl (by kernel_rfl) Try.func5 (by kernel_rfl)
    (of_decide_eq_true (by kernel_rfl)) (by unfold Func.isWrapper; first | (rw [if_pos (by decide +kernel)]; kernel_rfl) | (rw [if_neg (by decide +kernel)]; exact ⟨rfl, rfl⟩))
    (fun os started H enc _ => lifted os started H enc)

/-- The statement. -/
theorem proved : Rows.HeaderInsideSaid := over
#print axioms proved
end Go.Proofs.Ytacognejefeboaa.headerInside
