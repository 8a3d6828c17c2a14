/-
  HeaderMagic is true whatever the input: a header of which any of its first eight bytes is another one is none; no conditions.
-/
import Derived.Test.YtacognejefeboaaRows
import Derived.WalkKit
import Derived.ProofKit
import Derived.OpenShut
import Derived.ShutString
import Derived.ChangeOld
import Derived.Below
import Derived.Test.YtacognejefeboaaL8
namespace Go.Proofs.Ytacognejefeboaa.headerMagic
open Go.ChangeShapes Go.WideShapes Go.ChangeAt Go.RowKit
set_option linter.unusedVariables false

theorem own : ownKnob Try.prog.godebug = none := by kernel_rfl

/-! The walk. -/
set_option maxRecDepth 20000 in
set_option maxHeartbeats 8000000 in
theorem walk (x0 : HeadD) (a1 : Int) (a2 : Int) (w : World) (w0 : HeadOk x0) (w1 : (Lit.int .u8 a1).wf = true) (w2 : (Lit.int .u8 a2).wf = true) :
    Calls Try.prog 6 #[hv x0.p x0.k x0.o x0.n, .int .u8 a1, .int .u8 a2] w fun e w' => e = .returned (.bool true) ∧ Below w.heap.size w w' := by
  obtain ⟨at', hat, rfl⟩ := u8_nat w1
  obtain ⟨by', hby, rfl⟩ := u8_nat w2
  obtain ⟨p, k, o, n⟩ := x0
  have hok := w0
  clear w0 w1 w2
  obtain ⟨x1, hx1⟩ : ∃ x1, x1 = Box4.new w 33 (.int .i64 p) (.int .i64 k) (.int .u64 (o : Int)) (.int .u64 (n : Int)) := ⟨_, rfl⟩
  have b1 := below_new w (.cells #[.int .i64 p, .int .i64 k, .int .u64 (o : Int), .int .u64 (n : Int)] 33)
  clear hx1
  by_cases hr : M.right p k = true
  · obtain ⟨pn, kn, rfl, rfl, hr⟩ := right_nat hr
    have hpk := (M.right_iff _ _).1 hr
    have d1 : decide ((pn : Int) < 1) = false := by simp; omega
    have d2 : decide ((1048576 : Int) < (pn : Int)) = false := by simp; omega
    have d3 : decide ((kn : Int) < 0) = false := by simp
    have d4 : decide ((255 : Int) < (kn : Int)) = false := by simp; omega
    have HR := Lib.hid (And.intro hr hok)
    clear hr hpk hok
    obtain ⟨t, ht⟩ : ∃ t, t = at' % 8 := ⟨_, rfl⟩
    have ht8 : t < 8 := by omega
    have htI : (at' : Int) % 8 = (t : Int) := by omega
    have HT := Lib.hid htI
    clear ht htI hat
    go_enter Try.func6, Try.ntmps6
    go_wp2_with fail
    refine (awake_any _).mono ?_
    rintro e w1 ⟨rfl, bb⟩
    have x2 := x1.below bb
    have b2 := below_call b1 bb
    generalize hg : w.heap.size = g3 at x1 x2 ⊢
    have H1 := Lib.hid (show Box4 w1 g3 _ _ _ _ ∧ Below w.heap.size w w1 ∧ w.heap.size = g3 from ⟨x2, b2, hg⟩)
    have c0 := x2.c0
    have c1 := x2.c1
    clear x1 x2 b1 b2 bb hg
    go_wp2_with fail
    refine (at_new (Below.refl w1.heap.size w1) 2 2 (by decide)).mono ?_
    rintro e w2 ⟨s, O2, rfl, A2⟩
    have x2 := H1.out.1.below A2.bel
    have H2 := Lib.hid A2
    clear c0 c1 A2
    have c0 := x2.c0
    have c1 := x2.c1
    have c2 := x2.c2
    have c3 := x2.c3
    clear x2
    go_wp2_with fail
    refine (write_hd H2.out 1 1 pn kn pn kn o n rfl (by omega) rfl rfl HR.out.1 HR.out.2.o HR.out.2.n (by omega)).mono ?_
    rintro e w3 ⟨rfl, A3, k3⟩
    have st := Stands.written (fun _ => 0) 1 pn kn o n HR.out.1 HR.out.2.o HR.out.2.n
    have pk := fun x hx => M.isH_poked (fun _ => 0) (1 * 4096) pn kn o n t ht8 x hx
    generalize M.wr (fun _ => 0) (1 * 4096) (M.hd pn kn o n) = f1 at *
    obtain ⟨q, hq⟩ : ∃ q, q = 1 * 4096 + t := ⟨_, rfl⟩
    rw [← hq] at pk
    have HP := Lib.hid (And.intro pk st)
    have hq2 : (4096 : Int) + (t : Int) = (q : Int) := by omega
    have hqw : IntKind.u64.wrap (4096 + (t : Int)) = (q : Int) := by rw [wrapU]; omega
    have hq3 : q + 1 ≤ 2 * 4096 := by omega
    have H3 := Lib.hid A3
    have htI := HT.out
    have HQ := Lib.hid hq
    clear pk st A3 k3 c0 c1 c2 c3 H2 hq
    generalize Wid O2 w2 w3 = O3 at *
    go_wp2_with fail
    refine (at_load H3.out q 1 (by omega) (by omega) (by omega)).mono ?_
    rintro e w4 ⟨g, rfl, A4, L4, k4, hg0, hg1⟩
    have et : M.touched q 1 = 1 := by rw [M.touched_one]; have := HQ.out; omega
    rw [et] at A4
    rw [M.rd_one] at L4
    obtain ⟨b, hb⟩ : ∃ b, b = f1 q := ⟨_, rfl⟩
    rw [← hb] at L4
    have HB := Lib.hid hb
    have H4 := Lib.hid (And.intro A4 (And.intro L4 hg0))
    clear hqw hq2 htI A4 L4 k4 hg1 et hb H3 hg0
    by_cases h0 : by' = 0
    · subst h0
      go_wp2_with fail
      go_ret
      exact ⟨rfl, below_call H1.out.2.1 H4.out.1.bel⟩
    · have e0 : ((by' : Int) == 0) = false := by simp; omega
      obtain ⟨y, hy⟩ := u8_of hby
      obtain ⟨x, hx, hxn⟩ := u8_add b y
      have hxb := hxn (by omega)
      have lc := L4c H4.out.2.1
      have lf := L4f H4.out.2.1
      obtain ⟨bi, hbi⟩ : ∃ bi : Int, bi = (b.toNat : Int) := ⟨_, rfl⟩
      obtain ⟨yi, hyi⟩ : ∃ yi : Int, yi = (by' : Int) := ⟨_, rfl⟩
      obtain ⟨xi, hxi⟩ : ∃ xi : Int, xi = (x.toNat : Int) := ⟨_, rfl⟩
      rw [hy, ← hbi, ← hyi, ← hxi] at hx
      have hw8 : IntKind.u8.wrap (bi + yi) = xi := hx.symm
      have hbu : IntKind.u64.wrap bi = bi := by rw [wrapU, hbi]; have := b.toNat_lt; omega
      have e1 : (yi == 0) = false := by rw [hyi]; exact e0
      rw [← hbi] at lc
      rw [← hyi]
      have HX := Lib.hid (And.intro hbi (And.intro hxi hxb))
      clear hx hxn hxb hbi hxi hyi e0 h0 hy hby
      go_wp2_with fail
      have hno : ¬ O3 w4.heap.size := fun e => by have := H4.out.1.sp.lt e; omega
      have ca : (w4.alloc (.cells #[.int .u64 bi] 31)).cell? ⟨w4.heap.size, 0, none⟩ = some (.int .u64 bi) := World.cell?_alloc_mark _ _ _ _ _
      have ba := below_new w4 (.cells #[.int .u64 bi] 31)
      have Aa := H4.out.1.same ba
      have La := H4.out.2.1.below ba
      have hlo : ∀ c, O3 c → c < w4.heap.size := fun c hc => H4.out.1.sp.lt hc
      have hsz := ba.size
      generalize w4.alloc (.cells #[.int .u64 bi] 31) = wa at *
      generalize w4.heap.size = ga at *
      obtain ⟨g1, hg1⟩ : ∃ g1, wa.heap.size = g1 := ⟨_, rfl⟩
      refine (bytes_byte b bi HX.out.1 ga g1 _ hg1 ca).mono ?_
      rintro e w5 ⟨rfl, o5, b5⟩
      have A5 := Aa.same b5
      have L5 := La.below b5
      have hn1 : ¬ O3 g1 := fun e => by have := hlo _ e; omega
      have hne : g1 ≠ g := by have := La.lt; omega
      have M5 : Loose w5 O3 g1 [b] := ⟨o5, hn1, o5.lt (by simp)⟩
      have pA := A5.poke L5 H4.out.2.2 x
      have pM := M5.poke hne (.int .u8 (x.toNat : Int))
      rw [← HX.out.2.1] at pA pM
      have lc5 := L4c L5
      have lf5 := L4f L5
      rw [← HX.out.1] at lc5
      have H6 := Lib.hid (And.intro pA.1 (And.intro pA.2 pM))
      clear hno ca ba Aa La hlo hsz hg1 o5 b5 A5 L5 hn1 hne M5 pA pM lc lf H4
      go_upto_region 14 with fail
      generalize w5.setCell ⟨g, 0, none⟩ (.int .u8 xi) = w6 at *
      clear lc5 lf5 hw8 hbu e1
      go_wp2_with fail
      refine (at_store_own H6.out.1 q 1 g [x] rfl H6.out.2.1 (by omega) (by omega) (by omega)).mono ?_
      rintro e w7 ⟨rfl, A7, k7⟩
      have et : M.touched q 1 = 1 := by rw [M.touched_one]; have := HQ.out; omega
      rw [et] at A7
      have M7 := H6.out.2.2.wid k7
      have bad := HP.out.1 x (by rw [← HB.out]; exact HX.out.2.2)
      have back := M.wr_back f1 q x
      rw [← HB.out] at back
      generalize M.wr f1 q [x] = f2 at *
      generalize Wid O3 w6 w7 = O7 at *
      have H7 := Lib.hid (And.intro A7 (And.intro M7 (And.intro bad back)))
      clear A7 k7 M7 bad back H6 et
      go_wp2_with fail
      refine (read_bad H7.out.1 1 1 rfl (by omega) H7.out.2.2.1 (by omega)).mono ?_
      rintro e w8 ⟨rfl, A8, k8⟩
      have b9 := below_new w8 (.cells #[.int .i64 0, .int .i64 0, .int .u64 0, .int .u64 0] 33)
      have H9 := Lib.hid (And.intro (A8.same b9) ((H7.out.2.1.kept k8).below b9))
      clear A8 k8 b9
      go_upto_region 16 with fail
      generalize w8.alloc (.cells #[.int .i64 0, .int .i64 0, .int .u64 0, .int .u64 0] 33) = w9 at *
      generalize w8.heap.size = g15 at *
      go_wp2_with fail
      refine (at_store_own H9.out.1 q 1 g1 [b] rfl H9.out.2 (by omega) (by omega) (by omega)).mono ?_
      rintro e w10 ⟨rfl, A10, k10⟩
      have et : M.touched q 1 = 1 := by rw [M.touched_one]; have := HQ.out; omega
      rw [et, H7.out.2.2.2] at A10
      have H10 := Lib.hid A10
      clear A10 k10 H9 et
      generalize Wid O7 w9 w10 = O10 at *
      go_wp2_with fail
      refine (read_hd H10.out 1 1 pn kn o n rfl (by omega) HP.out.2 (by omega)).mono ?_
      rintro e w11 ⟨rfl, A11, k11⟩
      have x12 := Box4.new w11 33 (.int .i64 (pn : Int)) (.int .i64 (kn : Int)) (.int .u64 (o : Int)) (.int .u64 (n : Int))
      have b12 := below_new w11 (.cells #[.int .i64 (pn : Int), .int .i64 (kn : Int), .int .u64 (o : Int), .int .u64 (n : Int)] 33)
      have y12 := (H1.out.1.below A11.bel).below b12
      have H12 := Lib.hid (below_call A11.bel b12)
      clear A11 k11 b12
      go_upto_region 18 with fail
      generalize w11.alloc (.cells #[.int .i64 (pn : Int), .int .i64 (kn : Int), .int .u64 (o : Int), .int .u64 (n : Int)] 33) = w12 at *
      generalize w11.heap.size = g18 at *
      have c0 := x12.c0
      have c1 := x12.c1
      have c2 := x12.c2
      have c3 := x12.c3
      have e0 := y12.c0
      have e1 := y12.c1
      have e2 := y12.c2
      have e3 := y12.c3
      clear x12 y12
      go_wp2_with fail
      go_ret
      exact ⟨rfl, below_call H1.out.2.1 H12.out⟩
  · have HB := Lib.hid b1
    have hr' := (M.right_not p k).1 (by simpa using hr)
    clear hr hok
    have no : ∀ w1, Below (w.alloc (.cells #[.int .i64 p, .int .i64 k, .int .u64 (o : Int), .int .u64 (n : Int)] 33)).heap.size (w.alloc (.cells #[.int .i64 p, .int .i64 k, .int .u64 (o : Int), .int .u64 (n : Int)] 33)) w1 → Below w.heap.size w w1 := fun w1 h => below_call HB.out h
    have NO := Lib.hid no
    have CC := Lib.hid (fun w1 (h : Below _ _ w1) => x1.below h)
    clear x1 b1 no
    go_enter Try.func6, Try.ntmps6
    go_wp2_with fail
    refine (awake_any _).mono ?_
    rintro e w1 ⟨rfl, bb⟩
    have x2 := CC.out _ bb
    have H2 := Lib.hid (NO.out _ bb)
    generalize hg : w.heap.size = g3 at x2 ⊢
    have c0 := x2.c0
    have c1 := x2.c1
    clear x2 bb CC NO HB hg
    by_cases h1 : p < 1
    · have d1 : decide (p < 1) = true := by simpa using h1
      clear h1 hr'
      go_wp2_with fail
      go_ret
      exact ⟨rfl, H2.out⟩
    · have d1 : decide (p < 1) = false := by simpa using h1
      by_cases h2 : 1048576 < p
      · have d2 : decide (1048576 < p) = true := by simpa using h2
        clear h1 h2 hr'
        go_wp2_with fail
        go_ret
        exact ⟨rfl, H2.out⟩
      · have d2 : decide (1048576 < p) = false := by simpa using h2
        by_cases h3 : k < 0
        · have d3 : decide (k < 0) = true := by simpa using h3
          clear h1 h2 h3 hr'
          go_wp2_with fail
          go_ret
          exact ⟨rfl, H2.out⟩
        · have d3 : decide (k < 0) = false := by simpa using h3
          have d4 : decide (255 < k) = true := by simp; omega
          clear h1 h2 h3 hr'
          go_wp2_with fail
          go_ret
          exact ⟨rfl, H2.out⟩

/-! The row's step. -/
set_option maxRecDepth 100000 in
theorem lifted (os : Os) (started : os.Started) (H : Type) (enc : TypeId × Value → H) :
    ReturnsInHanded {} Try.checked os 6 .any (Rows.headerMagicSpec.pre6 enc Try.prog Try.f6 Rows.headerMagicRow.domain false) (Rows.headerMagicSpec.post enc Try.prog Try.f6 false true false false) := by
  refine returnsInHanded_of_change (C := Try.checked) own started (by kernel_rfl) Try.func6
    (ChangeSpec.witness6 (enc := enc) (C := Try.checked) false ⟨#[], #[.agg #[.int .i64 0, .int .i64 0, .int .u64 0, .int .u64 0], .int .u8 0, .int .u8 0], []⟩ 8 (by kernel_rfl) (by kernel_rfl) (by kernel_rfl) (by kernel_rfl)) ?_
  intro W base args ds gs before hval0 hW hcnd _
  have hval : ∀ (j : Nat) t v, Try.f6.params[j]? = some t → args[j]? = some v → Value.okWide Try.prog W .any base t v := hval0
  have hW' := hW
  obtain ⟨p, q, hA0, hV, rfl, hfz, hnd⟩ := hW
  have hA : DataW.TrodAll enc Try.prog W 0 (fun _ => true) true Try.f6.params.toList args.toList ds p := hA0
  rw [Try.params6] at hA hval
  obtain ⟨v0, vs0, d0, ds0, p0, q0, hargs, rfl, rfl, h0, r0⟩ := trodAll_cons hA
  obtain ⟨v1, vs1, d1, ds1, p1, q1, rfl, rfl, rfl, h1, r1⟩ := trodAll_cons r0
  obtain ⟨v2, vs2, d2, ds2, p2, q2, rfl, rfl, rfl, h2, r2⟩ := trodAll_cons r1
  obtain ⟨rfl, rfl, rfl⟩ := trodAll_nil r2
  obtain rfl : args = #[v0, v1, v2] := by cases args; simp_all
  obtain ⟨rfl, rfl⟩ := trodVars_none hV
  have k0 := h0
  have lt0 : ∀ x ∈ p0, x.block < W.heap.size := by obtain ⟨m, hm⟩ := k0; exact DataW.trod_lt m _ _ _ hm
  obtain ⟨x0, w0, rfl⟩ := head_open (hval 0 33 v0 rfl rfl) h0
  obtain ⟨a1, rfl, rfl, rfl, w1⟩ := open_int Try.underlying5 (hval 1 5 v1 rfl rfl) h1
  obtain ⟨a2, rfl, rfl, rfl, w2⟩ := open_int Try.underlying5 (hval 2 5 v2 rfl rfl) h2
  clear hA0 hval0
  refine (walk x0 a1 a2 W w0 w1 w2).mono fun e W' ⟨he, bel⟩ => ?_
  subst he
  exact ⟨_, rfl, _, _, _, [], _, [], hW', trodAll_mk1 (shut_bool Try.underlying4 _), (trodAll_cons_mk (Below.trod laidOut (by kernel_rfl) (of_decide_eq_true (by kernel_rfl)) k0 bel lt0) (trodAll_cons_mk (shut_int Try.underlying5 w1) (trodAll_cons_mk (shut_int Try.underlying5 w2) trodAll_mk0))), rfl, bel.frame _, fun h => by cases h⟩

theorem over : Rows.headerMagicRow.holds Try.pinned (OpenSpec.ofChange Rows.headerMagicSpec) :=
  OpenClaim.holds_of_wide 6 Try.f6 rfl rfl rfl rfl rfl rfl rfl ⟨rfl, rfl, rfl, rfl, rfl⟩ rfl rfl rfl rfl rfl (by kernel_rfl) Try.func6 (by kernel_rfl)
    (of_decide_eq_true (by kernel_rfl)) (by unfold Func.isWrapper; first | (rw [if_pos (by decide +kernel)]; kernel_rfl) | (rw [if_neg (by decide +kernel)]; exact ⟨rfl, rfl⟩))
    (fun os started H enc _ => lifted os started H enc)

/-- The statement. -/
theorem proved : Rows.HeaderMagicSaid := over
#print axioms proved
end Go.Proofs.Ytacognejefeboaa.headerMagic
