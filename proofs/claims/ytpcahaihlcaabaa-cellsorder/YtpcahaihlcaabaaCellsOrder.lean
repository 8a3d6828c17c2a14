/-
  CellsOrder is true whatever the input: a fill is as many puts, whatever their order, and numbers at places that don't meet play no part for one another; no conditions.
-/
import Derived.Test.YtpcahaihlcaabaaRows
import Derived.WalkKit
import Derived.ProofKit
import Derived.OpenShut
import Derived.ShutString
import Derived.ChangeOld
import Derived.Below
import Derived.Test.YtpcahaihlcaabaaEx4
namespace Go.Proofs.Ytpcahaihlcaabaa.cellsOrder
open Go.ChangeShapes Go.WideShapes Go.ChangeAt Go.RowKit
set_option linter.unusedVariables false

theorem own : ownKnob Try.prog.godebug = none := by kernel_rfl

theorem at_put_of {w0 w : World} {s P T : Nat} {f : Nat → UInt8} {O : Nat → Prop} (h : At w0 w s P T f O) (z : Int) (a k n : Nat) (hz : z = (a : Int)) (hk : k = 1 ∨ k = 2 ∨ k = 4 ∨ k = 8) (hd : a % k = 0) (hin : a + k ≤ P * 4096) (hn : n < 18446744073709551616) (hT : T ≤ 900000000000) :
    Calls Try.prog 16 #[.pointer (some ⟨s, 0, none⟩), .int .u64 z, .int .i64 k, .int .u64 n] w fun e w' =>
      e = .returned (.int .i64 0) ∧ At w0 w' s P (T + 1) (M.wr f a (M.enc k n)) (Wid O w w') ∧ Kept w w' O := by
  subst hz
  exact at_put h a k n hk hd hin hn hT
theorem at_get_of {w0 w : World} {s P T : Nat} {f : Nat → UInt8} {O : Nat → Prop} (h : At w0 w s P T f O) (z : Int) (a k v : Nat) (hz : z = (a : Int)) (hv : M.num (M.rd f a k) = v) (hk : k = 1 ∨ k = 2 ∨ k = 4 ∨ k = 8) (hd : a % k = 0) (hin : a + k ≤ P * 4096) (hT : T ≤ 900000000000) :
    Calls Try.prog 14 #[.pointer (some ⟨s, 0, none⟩), .int .u64 z, .int .i64 k] w fun e w' =>
      e = .returned (.tuple #[.int .u64 (v : Int), .int .i64 0]) ∧ At w0 w' s P (T + 1) f O ∧ Kept w w' O := by
  subst hz hv
  exact at_get h a k hk hd hin hT
theorem at_load_of {w0 w : World} {s P T : Nat} {f : Nat → UInt8} {O : Nat → Prop} (h : At w0 w s P T f O) (z : Int) (a n : Nat) (R : List UInt8) (hz : z = (n : Int)) (hR : M.rd f a n = R) (hin : a + n ≤ P * 4096) (hn : n ≤ 1048576) (hT : T ≤ 1000000000000) :
    Calls Try.prog 24 #[.pointer (some ⟨s, 0, none⟩), .int .u64 a, .int .u64 z] w fun e w' => ∃ g N, e = .returned (.tuple #[.slice (some ⟨g, 0, none⟩) N N, .int .i64 0]) ∧ N = R.length ∧ w.heap.size ≤ g ∧
      At w0 w' s P (T + M.touched a n) f O ∧ Own w' g R ∧ g < w'.heap.size ∧ Kept w w' O := by
  subst hz hR
  refine (at_load h a n hin hn hT).mono ?_
  rintro e w' ⟨g, rfl, A, L, k, _, hg⟩
  exact ⟨g, n, rfl, (M.rd_length _ _ _).symm, hg, A, L.own, L.lt, k⟩
/-- What stands behind some rounds: the other space beside. -/
structure Orders (w0 w : World) (s t a k c : Nat) (E : List UInt8) (f : Nat → UInt8) (Ts : Nat) (Os : Nat → Prop) (j T : Nat) (O : Nat → Prop) : Prop where
  le : j ≤ c
  one : At w0 w s 40 Ts f Os
  two : At w0 w t 40 T (M.wr (fun _ => 0) (a + j * k) (M.rep E (c - j))) O
  dj : ∀ b, Os b → ¬ O b
  tk : T + j ≤ c
theorem orders_step {w0 w w' : World} {s t a k c : Nat} {E : List UInt8} {f : Nat → UInt8} {Ts : Nat} {Os : Nat → Prop} {j T : Nat} {O : Nat → Prop} (hE : E.length = k) (h : Orders w0 w s t a k c E f Ts Os (j + 1) T O)
    (A : At w0 w' t 40 (T + 1) (M.wr (M.wr (fun _ => 0) (a + (j + 1) * k) (M.rep E (c - (j + 1)))) (a + j * k) E) (Wid O w w')) (kp : Kept w w' O) : Orders w0 w' s t a k c E f Ts Os j (T + 1) (Wid O w w') := by
  have hle := h.le
  have htk := h.tk
  refine ⟨by omega, h.one.other kp h.dj A.bel, ?_, h.one.wid_apart h.dj, by omega⟩
  rw [M.wr_comm _ _ _ _ _ (Or.inr (by rw [hE, Nat.succ_mul]; omega))] at A
  have e : M.rep E (c - j) = E ++ M.rep E (c - (j + 1)) := by rw [← M.rep_succ]; congr 1; omega
  rw [e, M.wr_append, hE]
  rw [show a + (j + 1) * k = a + j * k + k by rw [Nat.succ_mul]; omega] at A
  exact A

/-! The walk. -/
set_option maxRecDepth 20000 in
set_option maxHeartbeats 8000000 in
theorem walk (a0 : Int) (a1 : Int) (a2 : Int) (a3 : Int) (a4 : Int) (w : World) (w0 : (Lit.int .u16 a0).wf = true) (w1 : (Lit.int .u8 a1).wf = true) (w2 : (Lit.int .u64 a2).wf = true) (w3 : (Lit.int .u8 a3).wf = true) (w4 : (Lit.int .u64 a4).wf = true) :
    Calls Try.prog 7 #[.int .u16 a0, .int .u8 a1, .int .u64 a2, .int .u8 a3, .int .u64 a4] w fun e w' => e = .returned (.bool true) ∧ Below w.heap.size w w' := by
  obtain ⟨at', hat, rfl⟩ := u16_nat w0
  obtain ⟨kk, hkk, rfl⟩ := u8_nat w1
  obtain ⟨n, hn, rfl⟩ := u64_nat w2
  obtain ⟨tm, htm, rfl⟩ := u8_nat w3
  obtain ⟨m, hm64, rfl⟩ := u64_nat w4
  clear w0 w1 w2 w3 w4
  obtain ⟨a, ha⟩ : ∃ a, a = at' / 8 * 8 := ⟨_, rfl⟩
  have hA : (at' : Int) / 8 * 8 = (a : Int) := by omega
  have ha8 : a % 8 = 0 := by omega
  have ha9 : a < 65536 := by omega
  obtain ⟨c, hc⟩ : ∃ c, c = tm % 40 := ⟨_, rfl⟩
  have hC : (tm : Int) % 40 = (c : Int) := by omega
  have hc40 : c < 40 := by omega
  clear ha hc
  rcases (show kk % 4 = 0 ∨ kk % 4 = 1 ∨ kk % 4 = 2 ∨ kk % 4 = 3 by omega) with hr | hr | hr | hr
  · have hm : (kk : Int) % 4 = 0 := by omega
    clear hr
    obtain ⟨E, hE⟩ : ∃ E, E = M.enc 1 n := ⟨_, rfl⟩
    have hEl : E.length = 1 := by rw [hE, M.enc_length]
    obtain ⟨fr, hfr⟩ : ∃ fr, fr = a + (c * 1 + 8) / 8 * 8 := ⟨_, rfl⟩
    obtain ⟨R, hR⟩ : ∃ R, R = M.rep E c := ⟨_, rfl⟩
    have hRl : R.length = c * 1 := by rw [hR, M.rep_length, hEl]
    have hfr1 : a + c * 1 ≤ fr := by omega
    have hfr2 : fr ≤ 66000 := by omega
    have hfr3 : fr % 8 = 0 := by omega
    have HE := Lib.hid (And.intro hE (And.intro hEl (And.intro hR (And.intro hRl hfr))))
    clear hE hEl hR hRl hfr
    go_enter Try.func7, Try.ntmps7
    go_wp2_with fail
    refine (awake_any _).mono ?_
    rintro e w1 ⟨rfl, b1⟩
    have B1 := Lib.hid b1
    clear b1
    go_wp2_with fail
    refine (at_new (w0 := w) B1.out _ 40 (by decide)).mono ?_
    rintro e w2 ⟨s, O2, rfl, A2⟩
    have H2 := Lib.hid A2
    clear A2
    go_wp2_with fail
    refine (snew_any _ 40 (by decide) w2).mono ?_
    rintro e w3 ⟨t, rfl, S3, b3⟩
    obtain ⟨Ot, hOt⟩ : ∃ Ot : Nat → Prop, Ot = fun b => w2.heap.size ≤ b ∧ b < w3.heap.size := ⟨_, rfl⟩
    have H3 := Lib.hid (show At w w3 s 40 0 (fun _ => 0) O2 ∧ At w w3 t 40 0 (fun _ => 0) Ot ∧ (∀ b, O2 b → ¬ Ot b) from by
      subst hOt
      exact ⟨H2.out.same b3, ⟨S3, below_call H2.out.bel b3, fun b hb => Nat.le_trans H2.out.bel.size hb.1⟩, fun b hb e => by have := H2.out.sp.lt hb; omega⟩)
    clear S3 b3 H2 hOt
    go_wp2_with fail
    refine (at_put_of H3.out.1 _ fr 8 m (by have := HE.out.2.2.2.2; omega) (by omega) hfr3 (by omega) hm64 (by omega)).mono ?_
    rintro e w4 ⟨rfl, A4, k4⟩
    have H4 := Lib.hid (show At w w4 s 40 1 (M.wr (fun _ => 0) fr (M.enc 8 m)) (Wid O2 w3 w4) ∧ At w w4 t 40 0 (fun _ => 0) Ot ∧ (∀ b, Wid O2 w3 w4 b → ¬ Ot b) from
      ⟨A4, H3.out.2.1.other k4 (fun b hb e => H3.out.2.2 b e hb) A4.bel, fun b hb e => H3.out.2.1.wid_apart (w' := w4) (fun b hb e => H3.out.2.2 b e hb) b e hb⟩)
    clear A4 k4 H3
    generalize Wid O2 w3 w4 = O4 at *
    go_wp2_with fail
    refine (at_fill H4.out.1 a 1 n c (by omega) (by omega) (by omega) (by omega) (by omega) hn (by omega)).mono ?_
    rw [← HE.out.1, ← HE.out.2.2.1]
    rintro e w5 ⟨rfl, A5, k5⟩
    obtain ⟨f, hf⟩ : ∃ f, f = M.wr (M.wr (fun _ => 0) fr (M.enc 8 m)) a R := ⟨_, rfl⟩
    rw [← hf] at A5
    have hT0 := H4.out.1.tl a (1 * c) (by omega)
    generalize M.touched a (1 * c) = T0 at *
    have H5 := Lib.hid (show At w w5 s 40 (1 + T0) f (Wid O4 w4 w5) ∧ At w w5 t 40 0 (fun _ => 0) Ot ∧ (∀ b, Wid O4 w4 w5 b → ¬ Ot b) from
      ⟨A5, H4.out.2.1.other k5 (fun b hb e => H4.out.2.2 b e hb) A5.bel, fun b hb e => H4.out.2.1.wid_apart (w' := w5) (fun b hb e => H4.out.2.2 b e hb) b e hb⟩)
    have hf1 : M.rd f a (c * 1) = R := by
      have := M.rd_wr (M.wr (fun _ => 0) fr (M.enc 8 m)) a R
      rwa [HE.out.2.2.2.1, ← hf] at this
    have hf2 : M.num (M.rd f fr 8) = m := by
      rw [hf, M.rd_wr_apart _ _ _ _ _ (Or.inr (by rw [HE.out.2.2.2.1]; exact hfr1)), num_wr]
      exact Nat.mod_eq_of_lt hm64
    have HF := Lib.hid (And.intro hf1 hf2)
    clear A5 k5 H4 hf hf1 hf2
    generalize Wid O4 w4 w5 = O5 at *
    clear hm hA hC
    go_wp2_with fail
    go_loopw [19] (fun i wr => ∃ (j T : Nat) (O : Nat → Prop), i = .int .i64 ((j : Int) - 1) ∧ Orders w wr s t a 1 c E f (1 + T0) O5 j T O) (fun i _ => (intOf i + 1).toNat)
    case atStart => exact ⟨c, 0, Ot, rfl, ⟨Nat.le_refl _, H5.out.1, by rw [Nat.sub_self, M.rep_zero, M.wr_nil]; exact H5.out.2.1, H5.out.2.2, by omega⟩⟩
    case round =>
      obtain ⟨j, T, O, rfl, hO⟩ := hrel
      have hle := hO.le
      have htk := hO.tk
      have HO := Lib.hid hO
      clear hO H5
      by_cases h0 : 0 < j
      · obtain ⟨i, rfl⟩ : ∃ i, j = i + 1 := ⟨j - 1, by omega⟩
        have hi : ((i + 1 : Nat) : Int) - 1 = (i : Int) := by omega
        rw [hi]
        clear hi h0
        go_wp2_with fail
        refine (at_put_of HO.out.two _ (a + i * 1) 1 n (by omega) (by omega) (by omega) (by omega) hn (by omega)).mono ?_
        rw [← HE.out.1]
        rintro e w6 ⟨rfl, A6, k6⟩
        have H6 := Lib.hid (orders_step HE.out.2.1 HO.out A6 k6)
        clear A6 k6
        go_wp2_with fail
        go_roundw
        case rel => exact ⟨i, T + 1, _, by go_num, H6.out⟩
        case measure => first | (simp [intOf]; done) | (simp [intOf]; omega)
      · obtain rfl : j = 0 := by omega
        have d0 : decide ((0 : Int) ≤ ((0 : Nat) : Int) - 1) = false := by decide
        have htwo : M.rd (M.wr (fun _ => 0) (a + 0 * 1) (M.rep E (c - 0))) a (c * 1) = R := by
          rw [Nat.zero_mul, Nat.add_zero, Nat.sub_zero, ← HE.out.2.2.1]
          have := M.rd_wr (fun _ => 0) a R
          rwa [HE.out.2.2.2.1] at this
        have HW := Lib.hid htwo
        clear htwo h0
        go_wp2_with fail
        refine (at_load_of HO.out.one _ a (c * 1) R (by omega) HF.out.1 (by omega) (by omega) (by omega)).mono ?_
        rintro e w6 ⟨g6, N6, rfl, hN6, hg6, A6, o6, z6, k6⟩
        have ht6 := A6.tl a (c * 1) (by omega)
        have H6 := Lib.hid (show At w w6 s 40 _ f O5 ∧ At w w6 t 40 T _ O ∧ ¬ O g6 ∧ ¬ O5 g6 ∧ Own w6 g6 R ∧ g6 < w6.heap.size ∧ N6 = R.length ∧ _ from ⟨A6, HO.out.two.other k6 (fun b hb e => HO.out.dj b e hb) A6.bel, fun e => by have := HO.out.two.sp.lt e; omega, fun e => by have := HO.out.one.sp.lt e; omega, o6, z6, hN6, ht6⟩)
        have hT6 : 1 + T0 + M.touched a (c * 1) ≤ 3000000 := by omega
        clear A6 o6 z6 k6 hN6 hg6 ht6
        generalize M.touched a (c * 1) = T1 at *
        go_wp2_with fail
        refine (at_load_of H6.out.2.1 _ a (c * 1) R (by omega) HW.out (by omega) (by omega) (by omega)).mono ?_
        rintro e w7 ⟨g7, N7, rfl, hN7, hg7, A7, o7, z7, k7⟩
        have H7 := Lib.hid (show At w w7 s 40 _ f O5 ∧ ¬ O5 g7 ∧ Own w7 g7 R ∧ g7 < w7.heap.size ∧ Own w7 g6 R ∧ g6 < w7.heap.size ∧ N7 = R.length from ⟨H6.out.1.other k7 HO.out.dj A7.bel, fun e => by have := H6.out.1.sp.lt e; omega, o7, z7, k7.own H6.out.2.2.2.2.1 H6.out.2.2.2.2.2.1 H6.out.2.2.1, Nat.lt_of_lt_of_le H6.out.2.2.2.2.2.1 k7.size, hN7⟩)
        clear A7 o7 z7 k7 hN7 hg7
        go_wp2_with fail
        refine (at_get_of H7.out.1 _ fr 8 m (by have := HE.out.2.2.2.2; omega) HF.out.2 (by omega) hfr3 (by omega) (by omega)).mono ?_
        rintro e w8 ⟨rfl, A8, k8⟩
        have q1 := conv_at w8 (some ⟨g6, 0, none⟩) N6 R N6 H6.out.2.2.2.2.2.2.1 (k8.own H7.out.2.2.2.2.1 H7.out.2.2.2.2.2.1 H6.out.2.2.2.1).lies
        have q2 := conv_at w8 (some ⟨g7, 0, none⟩) N7 R N7 H7.out.2.2.2.2.2.2 (k8.own H7.out.2.2.1 H7.out.2.2.2.1 H7.out.2.1).lies
        have H8 := Lib.hid A8.bel
        clear A8 k8
        go_wp2_with fail
        go_ret
        exact ⟨rfl, H8.out⟩
  · have hm : (kk : Int) % 4 = 1 := by omega
    clear hr
    obtain ⟨E, hE⟩ : ∃ E, E = M.enc 2 n := ⟨_, rfl⟩
    have hEl : E.length = 2 := by rw [hE, M.enc_length]
    obtain ⟨fr, hfr⟩ : ∃ fr, fr = a + (c * 2 + 8) / 8 * 8 := ⟨_, rfl⟩
    obtain ⟨R, hR⟩ : ∃ R, R = M.rep E c := ⟨_, rfl⟩
    have hRl : R.length = c * 2 := by rw [hR, M.rep_length, hEl]
    have hfr1 : a + c * 2 ≤ fr := by omega
    have hfr2 : fr ≤ 66000 := by omega
    have hfr3 : fr % 8 = 0 := by omega
    have HE := Lib.hid (And.intro hE (And.intro hEl (And.intro hR (And.intro hRl hfr))))
    clear hE hEl hR hRl hfr
    go_enter Try.func7, Try.ntmps7
    go_wp2_with fail
    refine (awake_any _).mono ?_
    rintro e w1 ⟨rfl, b1⟩
    have B1 := Lib.hid b1
    clear b1
    go_wp2_with fail
    refine (at_new (w0 := w) B1.out _ 40 (by decide)).mono ?_
    rintro e w2 ⟨s, O2, rfl, A2⟩
    have H2 := Lib.hid A2
    clear A2
    go_wp2_with fail
    refine (snew_any _ 40 (by decide) w2).mono ?_
    rintro e w3 ⟨t, rfl, S3, b3⟩
    obtain ⟨Ot, hOt⟩ : ∃ Ot : Nat → Prop, Ot = fun b => w2.heap.size ≤ b ∧ b < w3.heap.size := ⟨_, rfl⟩
    have H3 := Lib.hid (show At w w3 s 40 0 (fun _ => 0) O2 ∧ At w w3 t 40 0 (fun _ => 0) Ot ∧ (∀ b, O2 b → ¬ Ot b) from by
      subst hOt
      exact ⟨H2.out.same b3, ⟨S3, below_call H2.out.bel b3, fun b hb => Nat.le_trans H2.out.bel.size hb.1⟩, fun b hb e => by have := H2.out.sp.lt hb; omega⟩)
    clear S3 b3 H2 hOt
    go_wp2_with fail
    refine (at_put_of H3.out.1 _ fr 8 m (by have := HE.out.2.2.2.2; omega) (by omega) hfr3 (by omega) hm64 (by omega)).mono ?_
    rintro e w4 ⟨rfl, A4, k4⟩
    have H4 := Lib.hid (show At w w4 s 40 1 (M.wr (fun _ => 0) fr (M.enc 8 m)) (Wid O2 w3 w4) ∧ At w w4 t 40 0 (fun _ => 0) Ot ∧ (∀ b, Wid O2 w3 w4 b → ¬ Ot b) from
      ⟨A4, H3.out.2.1.other k4 (fun b hb e => H3.out.2.2 b e hb) A4.bel, fun b hb e => H3.out.2.1.wid_apart (w' := w4) (fun b hb e => H3.out.2.2 b e hb) b e hb⟩)
    clear A4 k4 H3
    generalize Wid O2 w3 w4 = O4 at *
    go_wp2_with fail
    refine (at_fill H4.out.1 a 2 n c (by omega) (by omega) (by omega) (by omega) (by omega) hn (by omega)).mono ?_
    rw [← HE.out.1, ← HE.out.2.2.1]
    rintro e w5 ⟨rfl, A5, k5⟩
    obtain ⟨f, hf⟩ : ∃ f, f = M.wr (M.wr (fun _ => 0) fr (M.enc 8 m)) a R := ⟨_, rfl⟩
    rw [← hf] at A5
    have hT0 := H4.out.1.tl a (2 * c) (by omega)
    generalize M.touched a (2 * c) = T0 at *
    have H5 := Lib.hid (show At w w5 s 40 (1 + T0) f (Wid O4 w4 w5) ∧ At w w5 t 40 0 (fun _ => 0) Ot ∧ (∀ b, Wid O4 w4 w5 b → ¬ Ot b) from
      ⟨A5, H4.out.2.1.other k5 (fun b hb e => H4.out.2.2 b e hb) A5.bel, fun b hb e => H4.out.2.1.wid_apart (w' := w5) (fun b hb e => H4.out.2.2 b e hb) b e hb⟩)
    have hf1 : M.rd f a (c * 2) = R := by
      have := M.rd_wr (M.wr (fun _ => 0) fr (M.enc 8 m)) a R
      rwa [HE.out.2.2.2.1, ← hf] at this
    have hf2 : M.num (M.rd f fr 8) = m := by
      rw [hf, M.rd_wr_apart _ _ _ _ _ (Or.inr (by rw [HE.out.2.2.2.1]; exact hfr1)), num_wr]
      exact Nat.mod_eq_of_lt hm64
    have HF := Lib.hid (And.intro hf1 hf2)
    clear A5 k5 H4 hf hf1 hf2
    generalize Wid O4 w4 w5 = O5 at *
    clear hm hA hC
    go_wp2_with fail
    go_loopw [19] (fun i wr => ∃ (j T : Nat) (O : Nat → Prop), i = .int .i64 ((j : Int) - 1) ∧ Orders w wr s t a 2 c E f (1 + T0) O5 j T O) (fun i _ => (intOf i + 1).toNat)
    case atStart => exact ⟨c, 0, Ot, rfl, ⟨Nat.le_refl _, H5.out.1, by rw [Nat.sub_self, M.rep_zero, M.wr_nil]; exact H5.out.2.1, H5.out.2.2, by omega⟩⟩
    case round =>
      obtain ⟨j, T, O, rfl, hO⟩ := hrel
      have hle := hO.le
      have htk := hO.tk
      have HO := Lib.hid hO
      clear hO H5
      by_cases h0 : 0 < j
      · obtain ⟨i, rfl⟩ : ∃ i, j = i + 1 := ⟨j - 1, by omega⟩
        have hi : ((i + 1 : Nat) : Int) - 1 = (i : Int) := by omega
        rw [hi]
        clear hi h0
        go_wp2_with fail
        refine (at_put_of HO.out.two _ (a + i * 2) 2 n (by omega) (by omega) (by omega) (by omega) hn (by omega)).mono ?_
        rw [← HE.out.1]
        rintro e w6 ⟨rfl, A6, k6⟩
        have H6 := Lib.hid (orders_step HE.out.2.1 HO.out A6 k6)
        clear A6 k6
        go_wp2_with fail
        go_roundw
        case rel => exact ⟨i, T + 1, _, by go_num, H6.out⟩
        case measure => first | (simp [intOf]; done) | (simp [intOf]; omega)
      · obtain rfl : j = 0 := by omega
        have d0 : decide ((0 : Int) ≤ ((0 : Nat) : Int) - 1) = false := by decide
        have htwo : M.rd (M.wr (fun _ => 0) (a + 0 * 2) (M.rep E (c - 0))) a (c * 2) = R := by
          rw [Nat.zero_mul, Nat.add_zero, Nat.sub_zero, ← HE.out.2.2.1]
          have := M.rd_wr (fun _ => 0) a R
          rwa [HE.out.2.2.2.1] at this
        have HW := Lib.hid htwo
        clear htwo h0
        go_wp2_with fail
        refine (at_load_of HO.out.one _ a (c * 2) R (by omega) HF.out.1 (by omega) (by omega) (by omega)).mono ?_
        rintro e w6 ⟨g6, N6, rfl, hN6, hg6, A6, o6, z6, k6⟩
        have ht6 := A6.tl a (c * 2) (by omega)
        have H6 := Lib.hid (show At w w6 s 40 _ f O5 ∧ At w w6 t 40 T _ O ∧ ¬ O g6 ∧ ¬ O5 g6 ∧ Own w6 g6 R ∧ g6 < w6.heap.size ∧ N6 = R.length ∧ _ from ⟨A6, HO.out.two.other k6 (fun b hb e => HO.out.dj b e hb) A6.bel, fun e => by have := HO.out.two.sp.lt e; omega, fun e => by have := HO.out.one.sp.lt e; omega, o6, z6, hN6, ht6⟩)
        have hT6 : 1 + T0 + M.touched a (c * 2) ≤ 3000000 := by omega
        clear A6 o6 z6 k6 hN6 hg6 ht6
        generalize M.touched a (c * 2) = T1 at *
        go_wp2_with fail
        refine (at_load_of H6.out.2.1 _ a (c * 2) R (by omega) HW.out (by omega) (by omega) (by omega)).mono ?_
        rintro e w7 ⟨g7, N7, rfl, hN7, hg7, A7, o7, z7, k7⟩
        have H7 := Lib.hid (show At w w7 s 40 _ f O5 ∧ ¬ O5 g7 ∧ Own w7 g7 R ∧ g7 < w7.heap.size ∧ Own w7 g6 R ∧ g6 < w7.heap.size ∧ N7 = R.length from ⟨H6.out.1.other k7 HO.out.dj A7.bel, fun e => by have := H6.out.1.sp.lt e; omega, o7, z7, k7.own H6.out.2.2.2.2.1 H6.out.2.2.2.2.2.1 H6.out.2.2.1, Nat.lt_of_lt_of_le H6.out.2.2.2.2.2.1 k7.size, hN7⟩)
        clear A7 o7 z7 k7 hN7 hg7
        go_wp2_with fail
        refine (at_get_of H7.out.1 _ fr 8 m (by have := HE.out.2.2.2.2; omega) HF.out.2 (by omega) hfr3 (by omega) (by omega)).mono ?_
        rintro e w8 ⟨rfl, A8, k8⟩
        have q1 := conv_at w8 (some ⟨g6, 0, none⟩) N6 R N6 H6.out.2.2.2.2.2.2.1 (k8.own H7.out.2.2.2.2.1 H7.out.2.2.2.2.2.1 H6.out.2.2.2.1).lies
        have q2 := conv_at w8 (some ⟨g7, 0, none⟩) N7 R N7 H7.out.2.2.2.2.2.2 (k8.own H7.out.2.2.1 H7.out.2.2.2.1 H7.out.2.1).lies
        have H8 := Lib.hid A8.bel
        clear A8 k8
        go_wp2_with fail
        go_ret
        exact ⟨rfl, H8.out⟩
  · have hm : (kk : Int) % 4 = 2 := by omega
    clear hr
    obtain ⟨E, hE⟩ : ∃ E, E = M.enc 4 n := ⟨_, rfl⟩
    have hEl : E.length = 4 := by rw [hE, M.enc_length]
    obtain ⟨fr, hfr⟩ : ∃ fr, fr = a + (c * 4 + 8) / 8 * 8 := ⟨_, rfl⟩
    obtain ⟨R, hR⟩ : ∃ R, R = M.rep E c := ⟨_, rfl⟩
    have hRl : R.length = c * 4 := by rw [hR, M.rep_length, hEl]
    have hfr1 : a + c * 4 ≤ fr := by omega
    have hfr2 : fr ≤ 66000 := by omega
    have hfr3 : fr % 8 = 0 := by omega
    have HE := Lib.hid (And.intro hE (And.intro hEl (And.intro hR (And.intro hRl hfr))))
    clear hE hEl hR hRl hfr
    go_enter Try.func7, Try.ntmps7
    go_wp2_with fail
    refine (awake_any _).mono ?_
    rintro e w1 ⟨rfl, b1⟩
    have B1 := Lib.hid b1
    clear b1
    go_wp2_with fail
    refine (at_new (w0 := w) B1.out _ 40 (by decide)).mono ?_
    rintro e w2 ⟨s, O2, rfl, A2⟩
    have H2 := Lib.hid A2
    clear A2
    go_wp2_with fail
    refine (snew_any _ 40 (by decide) w2).mono ?_
    rintro e w3 ⟨t, rfl, S3, b3⟩
    obtain ⟨Ot, hOt⟩ : ∃ Ot : Nat → Prop, Ot = fun b => w2.heap.size ≤ b ∧ b < w3.heap.size := ⟨_, rfl⟩
    have H3 := Lib.hid (show At w w3 s 40 0 (fun _ => 0) O2 ∧ At w w3 t 40 0 (fun _ => 0) Ot ∧ (∀ b, O2 b → ¬ Ot b) from by
      subst hOt
      exact ⟨H2.out.same b3, ⟨S3, below_call H2.out.bel b3, fun b hb => Nat.le_trans H2.out.bel.size hb.1⟩, fun b hb e => by have := H2.out.sp.lt hb; omega⟩)
    clear S3 b3 H2 hOt
    go_wp2_with fail
    refine (at_put_of H3.out.1 _ fr 8 m (by have := HE.out.2.2.2.2; omega) (by omega) hfr3 (by omega) hm64 (by omega)).mono ?_
    rintro e w4 ⟨rfl, A4, k4⟩
    have H4 := Lib.hid (show At w w4 s 40 1 (M.wr (fun _ => 0) fr (M.enc 8 m)) (Wid O2 w3 w4) ∧ At w w4 t 40 0 (fun _ => 0) Ot ∧ (∀ b, Wid O2 w3 w4 b → ¬ Ot b) from
      ⟨A4, H3.out.2.1.other k4 (fun b hb e => H3.out.2.2 b e hb) A4.bel, fun b hb e => H3.out.2.1.wid_apart (w' := w4) (fun b hb e => H3.out.2.2 b e hb) b e hb⟩)
    clear A4 k4 H3
    generalize Wid O2 w3 w4 = O4 at *
    go_wp2_with fail
    refine (at_fill H4.out.1 a 4 n c (by omega) (by omega) (by omega) (by omega) (by omega) hn (by omega)).mono ?_
    rw [← HE.out.1, ← HE.out.2.2.1]
    rintro e w5 ⟨rfl, A5, k5⟩
    obtain ⟨f, hf⟩ : ∃ f, f = M.wr (M.wr (fun _ => 0) fr (M.enc 8 m)) a R := ⟨_, rfl⟩
    rw [← hf] at A5
    have hT0 := H4.out.1.tl a (4 * c) (by omega)
    generalize M.touched a (4 * c) = T0 at *
    have H5 := Lib.hid (show At w w5 s 40 (1 + T0) f (Wid O4 w4 w5) ∧ At w w5 t 40 0 (fun _ => 0) Ot ∧ (∀ b, Wid O4 w4 w5 b → ¬ Ot b) from
      ⟨A5, H4.out.2.1.other k5 (fun b hb e => H4.out.2.2 b e hb) A5.bel, fun b hb e => H4.out.2.1.wid_apart (w' := w5) (fun b hb e => H4.out.2.2 b e hb) b e hb⟩)
    have hf1 : M.rd f a (c * 4) = R := by
      have := M.rd_wr (M.wr (fun _ => 0) fr (M.enc 8 m)) a R
      rwa [HE.out.2.2.2.1, ← hf] at this
    have hf2 : M.num (M.rd f fr 8) = m := by
      rw [hf, M.rd_wr_apart _ _ _ _ _ (Or.inr (by rw [HE.out.2.2.2.1]; exact hfr1)), num_wr]
      exact Nat.mod_eq_of_lt hm64
    have HF := Lib.hid (And.intro hf1 hf2)
    clear A5 k5 H4 hf hf1 hf2
    generalize Wid O4 w4 w5 = O5 at *
    clear hm hA hC
    go_wp2_with fail
    go_loopw [19] (fun i wr => ∃ (j T : Nat) (O : Nat → Prop), i = .int .i64 ((j : Int) - 1) ∧ Orders w wr s t a 4 c E f (1 + T0) O5 j T O) (fun i _ => (intOf i + 1).toNat)
    case atStart => exact ⟨c, 0, Ot, rfl, ⟨Nat.le_refl _, H5.out.1, by rw [Nat.sub_self, M.rep_zero, M.wr_nil]; exact H5.out.2.1, H5.out.2.2, by omega⟩⟩
    case round =>
      obtain ⟨j, T, O, rfl, hO⟩ := hrel
      have hle := hO.le
      have htk := hO.tk
      have HO := Lib.hid hO
      clear hO H5
      by_cases h0 : 0 < j
      · obtain ⟨i, rfl⟩ : ∃ i, j = i + 1 := ⟨j - 1, by omega⟩
        have hi : ((i + 1 : Nat) : Int) - 1 = (i : Int) := by omega
        rw [hi]
        clear hi h0
        go_wp2_with fail
        refine (at_put_of HO.out.two _ (a + i * 4) 4 n (by omega) (by omega) (by omega) (by omega) hn (by omega)).mono ?_
        rw [← HE.out.1]
        rintro e w6 ⟨rfl, A6, k6⟩
        have H6 := Lib.hid (orders_step HE.out.2.1 HO.out A6 k6)
        clear A6 k6
        go_wp2_with fail
        go_roundw
        case rel => exact ⟨i, T + 1, _, by go_num, H6.out⟩
        case measure => first | (simp [intOf]; done) | (simp [intOf]; omega)
      · obtain rfl : j = 0 := by omega
        have d0 : decide ((0 : Int) ≤ ((0 : Nat) : Int) - 1) = false := by decide
        have htwo : M.rd (M.wr (fun _ => 0) (a + 0 * 4) (M.rep E (c - 0))) a (c * 4) = R := by
          rw [Nat.zero_mul, Nat.add_zero, Nat.sub_zero, ← HE.out.2.2.1]
          have := M.rd_wr (fun _ => 0) a R
          rwa [HE.out.2.2.2.1] at this
        have HW := Lib.hid htwo
        clear htwo h0
        go_wp2_with fail
        refine (at_load_of HO.out.one _ a (c * 4) R (by omega) HF.out.1 (by omega) (by omega) (by omega)).mono ?_
        rintro e w6 ⟨g6, N6, rfl, hN6, hg6, A6, o6, z6, k6⟩
        have ht6 := A6.tl a (c * 4) (by omega)
        have H6 := Lib.hid (show At w w6 s 40 _ f O5 ∧ At w w6 t 40 T _ O ∧ ¬ O g6 ∧ ¬ O5 g6 ∧ Own w6 g6 R ∧ g6 < w6.heap.size ∧ N6 = R.length ∧ _ from ⟨A6, HO.out.two.other k6 (fun b hb e => HO.out.dj b e hb) A6.bel, fun e => by have := HO.out.two.sp.lt e; omega, fun e => by have := HO.out.one.sp.lt e; omega, o6, z6, hN6, ht6⟩)
        have hT6 : 1 + T0 + M.touched a (c * 4) ≤ 3000000 := by omega
        clear A6 o6 z6 k6 hN6 hg6 ht6
        generalize M.touched a (c * 4) = T1 at *
        go_wp2_with fail
        refine (at_load_of H6.out.2.1 _ a (c * 4) R (by omega) HW.out (by omega) (by omega) (by omega)).mono ?_
        rintro e w7 ⟨g7, N7, rfl, hN7, hg7, A7, o7, z7, k7⟩
        have H7 := Lib.hid (show At w w7 s 40 _ f O5 ∧ ¬ O5 g7 ∧ Own w7 g7 R ∧ g7 < w7.heap.size ∧ Own w7 g6 R ∧ g6 < w7.heap.size ∧ N7 = R.length from ⟨H6.out.1.other k7 HO.out.dj A7.bel, fun e => by have := H6.out.1.sp.lt e; omega, o7, z7, k7.own H6.out.2.2.2.2.1 H6.out.2.2.2.2.2.1 H6.out.2.2.1, Nat.lt_of_lt_of_le H6.out.2.2.2.2.2.1 k7.size, hN7⟩)
        clear A7 o7 z7 k7 hN7 hg7
        go_wp2_with fail
        refine (at_get_of H7.out.1 _ fr 8 m (by have := HE.out.2.2.2.2; omega) HF.out.2 (by omega) hfr3 (by omega) (by omega)).mono ?_
        rintro e w8 ⟨rfl, A8, k8⟩
        have q1 := conv_at w8 (some ⟨g6, 0, none⟩) N6 R N6 H6.out.2.2.2.2.2.2.1 (k8.own H7.out.2.2.2.2.1 H7.out.2.2.2.2.2.1 H6.out.2.2.2.1).lies
        have q2 := conv_at w8 (some ⟨g7, 0, none⟩) N7 R N7 H7.out.2.2.2.2.2.2 (k8.own H7.out.2.2.1 H7.out.2.2.2.1 H7.out.2.1).lies
        have H8 := Lib.hid A8.bel
        clear A8 k8
        go_wp2_with fail
        go_ret
        exact ⟨rfl, H8.out⟩
  · have hm : (kk : Int) % 4 = 3 := by omega
    clear hr
    obtain ⟨E, hE⟩ : ∃ E, E = M.enc 8 n := ⟨_, rfl⟩
    have hEl : E.length = 8 := by rw [hE, M.enc_length]
    obtain ⟨fr, hfr⟩ : ∃ fr, fr = a + (c * 8 + 8) / 8 * 8 := ⟨_, rfl⟩
    obtain ⟨R, hR⟩ : ∃ R, R = M.rep E c := ⟨_, rfl⟩
    have hRl : R.length = c * 8 := by rw [hR, M.rep_length, hEl]
    have hfr1 : a + c * 8 ≤ fr := by omega
    have hfr2 : fr ≤ 66000 := by omega
    have hfr3 : fr % 8 = 0 := by omega
    have HE := Lib.hid (And.intro hE (And.intro hEl (And.intro hR (And.intro hRl hfr))))
    clear hE hEl hR hRl hfr
    go_enter Try.func7, Try.ntmps7
    go_wp2_with fail
    refine (awake_any _).mono ?_
    rintro e w1 ⟨rfl, b1⟩
    have B1 := Lib.hid b1
    clear b1
    go_wp2_with fail
    refine (at_new (w0 := w) B1.out _ 40 (by decide)).mono ?_
    rintro e w2 ⟨s, O2, rfl, A2⟩
    have H2 := Lib.hid A2
    clear A2
    go_wp2_with fail
    refine (snew_any _ 40 (by decide) w2).mono ?_
    rintro e w3 ⟨t, rfl, S3, b3⟩
    obtain ⟨Ot, hOt⟩ : ∃ Ot : Nat → Prop, Ot = fun b => w2.heap.size ≤ b ∧ b < w3.heap.size := ⟨_, rfl⟩
    have H3 := Lib.hid (show At w w3 s 40 0 (fun _ => 0) O2 ∧ At w w3 t 40 0 (fun _ => 0) Ot ∧ (∀ b, O2 b → ¬ Ot b) from by
      subst hOt
      exact ⟨H2.out.same b3, ⟨S3, below_call H2.out.bel b3, fun b hb => Nat.le_trans H2.out.bel.size hb.1⟩, fun b hb e => by have := H2.out.sp.lt hb; omega⟩)
    clear S3 b3 H2 hOt
    go_wp2_with fail
    refine (at_put_of H3.out.1 _ fr 8 m (by have := HE.out.2.2.2.2; omega) (by omega) hfr3 (by omega) hm64 (by omega)).mono ?_
    rintro e w4 ⟨rfl, A4, k4⟩
    have H4 := Lib.hid (show At w w4 s 40 1 (M.wr (fun _ => 0) fr (M.enc 8 m)) (Wid O2 w3 w4) ∧ At w w4 t 40 0 (fun _ => 0) Ot ∧ (∀ b, Wid O2 w3 w4 b → ¬ Ot b) from
      ⟨A4, H3.out.2.1.other k4 (fun b hb e => H3.out.2.2 b e hb) A4.bel, fun b hb e => H3.out.2.1.wid_apart (w' := w4) (fun b hb e => H3.out.2.2 b e hb) b e hb⟩)
    clear A4 k4 H3
    generalize Wid O2 w3 w4 = O4 at *
    go_wp2_with fail
    refine (at_fill H4.out.1 a 8 n c (by omega) (by omega) (by omega) (by omega) (by omega) hn (by omega)).mono ?_
    rw [← HE.out.1, ← HE.out.2.2.1]
    rintro e w5 ⟨rfl, A5, k5⟩
    obtain ⟨f, hf⟩ : ∃ f, f = M.wr (M.wr (fun _ => 0) fr (M.enc 8 m)) a R := ⟨_, rfl⟩
    rw [← hf] at A5
    have hT0 := H4.out.1.tl a (8 * c) (by omega)
    generalize M.touched a (8 * c) = T0 at *
    have H5 := Lib.hid (show At w w5 s 40 (1 + T0) f (Wid O4 w4 w5) ∧ At w w5 t 40 0 (fun _ => 0) Ot ∧ (∀ b, Wid O4 w4 w5 b → ¬ Ot b) from
      ⟨A5, H4.out.2.1.other k5 (fun b hb e => H4.out.2.2 b e hb) A5.bel, fun b hb e => H4.out.2.1.wid_apart (w' := w5) (fun b hb e => H4.out.2.2 b e hb) b e hb⟩)
    have hf1 : M.rd f a (c * 8) = R := by
      have := M.rd_wr (M.wr (fun _ => 0) fr (M.enc 8 m)) a R
      rwa [HE.out.2.2.2.1, ← hf] at this
    have hf2 : M.num (M.rd f fr 8) = m := by
      rw [hf, M.rd_wr_apart _ _ _ _ _ (Or.inr (by rw [HE.out.2.2.2.1]; exact hfr1)), num_wr]
      exact Nat.mod_eq_of_lt hm64
    have HF := Lib.hid (And.intro hf1 hf2)
    clear A5 k5 H4 hf hf1 hf2
    generalize Wid O4 w4 w5 = O5 at *
    clear hm hA hC
    go_wp2_with fail
    go_loopw [19] (fun i wr => ∃ (j T : Nat) (O : Nat → Prop), i = .int .i64 ((j : Int) - 1) ∧ Orders w wr s t a 8 c E f (1 + T0) O5 j T O) (fun i _ => (intOf i + 1).toNat)
    case atStart => exact ⟨c, 0, Ot, rfl, ⟨Nat.le_refl _, H5.out.1, by rw [Nat.sub_self, M.rep_zero, M.wr_nil]; exact H5.out.2.1, H5.out.2.2, by omega⟩⟩
    case round =>
      obtain ⟨j, T, O, rfl, hO⟩ := hrel
      have hle := hO.le
      have htk := hO.tk
      have HO := Lib.hid hO
      clear hO H5
      by_cases h0 : 0 < j
      · obtain ⟨i, rfl⟩ : ∃ i, j = i + 1 := ⟨j - 1, by omega⟩
        have hi : ((i + 1 : Nat) : Int) - 1 = (i : Int) := by omega
        rw [hi]
        clear hi h0
        go_wp2_with fail
        refine (at_put_of HO.out.two _ (a + i * 8) 8 n (by omega) (by omega) (by omega) (by omega) hn (by omega)).mono ?_
        rw [← HE.out.1]
        rintro e w6 ⟨rfl, A6, k6⟩
        have H6 := Lib.hid (orders_step HE.out.2.1 HO.out A6 k6)
        clear A6 k6
        go_wp2_with fail
        go_roundw
        case rel => exact ⟨i, T + 1, _, by go_num, H6.out⟩
        case measure => first | (simp [intOf]; done) | (simp [intOf]; omega)
      · obtain rfl : j = 0 := by omega
        have d0 : decide ((0 : Int) ≤ ((0 : Nat) : Int) - 1) = false := by decide
        have htwo : M.rd (M.wr (fun _ => 0) (a + 0 * 8) (M.rep E (c - 0))) a (c * 8) = R := by
          rw [Nat.zero_mul, Nat.add_zero, Nat.sub_zero, ← HE.out.2.2.1]
          have := M.rd_wr (fun _ => 0) a R
          rwa [HE.out.2.2.2.1] at this
        have HW := Lib.hid htwo
        clear htwo h0
        go_wp2_with fail
        refine (at_load_of HO.out.one _ a (c * 8) R (by omega) HF.out.1 (by omega) (by omega) (by omega)).mono ?_
        rintro e w6 ⟨g6, N6, rfl, hN6, hg6, A6, o6, z6, k6⟩
        have ht6 := A6.tl a (c * 8) (by omega)
        have H6 := Lib.hid (show At w w6 s 40 _ f O5 ∧ At w w6 t 40 T _ O ∧ ¬ O g6 ∧ ¬ O5 g6 ∧ Own w6 g6 R ∧ g6 < w6.heap.size ∧ N6 = R.length ∧ _ from ⟨A6, HO.out.two.other k6 (fun b hb e => HO.out.dj b e hb) A6.bel, fun e => by have := HO.out.two.sp.lt e; omega, fun e => by have := HO.out.one.sp.lt e; omega, o6, z6, hN6, ht6⟩)
        have hT6 : 1 + T0 + M.touched a (c * 8) ≤ 3000000 := by omega
        clear A6 o6 z6 k6 hN6 hg6 ht6
        generalize M.touched a (c * 8) = T1 at *
        go_wp2_with fail
        refine (at_load_of H6.out.2.1 _ a (c * 8) R (by omega) HW.out (by omega) (by omega) (by omega)).mono ?_
        rintro e w7 ⟨g7, N7, rfl, hN7, hg7, A7, o7, z7, k7⟩
        have H7 := Lib.hid (show At w w7 s 40 _ f O5 ∧ ¬ O5 g7 ∧ Own w7 g7 R ∧ g7 < w7.heap.size ∧ Own w7 g6 R ∧ g6 < w7.heap.size ∧ N7 = R.length from ⟨H6.out.1.other k7 HO.out.dj A7.bel, fun e => by have := H6.out.1.sp.lt e; omega, o7, z7, k7.own H6.out.2.2.2.2.1 H6.out.2.2.2.2.2.1 H6.out.2.2.1, Nat.lt_of_lt_of_le H6.out.2.2.2.2.2.1 k7.size, hN7⟩)
        clear A7 o7 z7 k7 hN7 hg7
        go_wp2_with fail
        refine (at_get_of H7.out.1 _ fr 8 m (by have := HE.out.2.2.2.2; omega) HF.out.2 (by omega) hfr3 (by omega) (by omega)).mono ?_
        rintro e w8 ⟨rfl, A8, k8⟩
        have q1 := conv_at w8 (some ⟨g6, 0, none⟩) N6 R N6 H6.out.2.2.2.2.2.2.1 (k8.own H7.out.2.2.2.2.1 H7.out.2.2.2.2.2.1 H6.out.2.2.2.1).lies
        have q2 := conv_at w8 (some ⟨g7, 0, none⟩) N7 R N7 H7.out.2.2.2.2.2.2 (k8.own H7.out.2.2.1 H7.out.2.2.2.1 H7.out.2.1).lies
        have H8 := Lib.hid A8.bel
        clear A8 k8
        go_wp2_with fail
        go_ret
        exact ⟨rfl, H8.out⟩

/-! The row's step. -/
set_option maxRecDepth 100000 in
theorem lifted (os : Os) (started : os.Started) (H : Type) (enc : TypeId × Value → H) :
    ReturnsInHanded {} Try.checked os 7 .any (Rows.cellsOrderSpec.pre6 enc Try.prog Try.f7 Rows.cellsOrderRow.domain false) (Rows.cellsOrderSpec.post enc Try.prog Try.f7 false true false false) := by
  refine returnsInHanded_of_change (C := Try.checked) own started (by kernel_rfl) Try.func7
    (ChangeSpec.witness6 (enc := enc) (C := Try.checked) false ⟨#[], #[.int .u16 0, .int .u8 0, .int .u64 0, .int .u8 0, .int .u64 0], []⟩ 8 (by kernel_rfl) (by kernel_rfl) (by kernel_rfl) (by kernel_rfl)) ?_
  intro W base args ds gs before hval0 hW hcnd _
  have hval : ∀ (j : Nat) t v, Try.f7.params[j]? = some t → args[j]? = some v → Value.okWide Try.prog W .any base t v := hval0
  have hW' := hW
  obtain ⟨p, q, hA0, hV, rfl, hfz, hnd⟩ := hW
  have hA : DataW.TrodAll enc Try.prog W 0 (fun _ => true) true Try.f7.params.toList args.toList ds p := hA0
  rw [Try.params7] at hA hval
  obtain ⟨v0, vs0, d0, ds0, p0, q0, hargs, rfl, rfl, h0, r0⟩ := trodAll_cons hA
  obtain ⟨v1, vs1, d1, ds1, p1, q1, rfl, rfl, rfl, h1, r1⟩ := trodAll_cons r0
  obtain ⟨v2, vs2, d2, ds2, p2, q2, rfl, rfl, rfl, h2, r2⟩ := trodAll_cons r1
  obtain ⟨v3, vs3, d3, ds3, p3, q3, rfl, rfl, rfl, h3, r3⟩ := trodAll_cons r2
  obtain ⟨v4, vs4, d4, ds4, p4, q4, rfl, rfl, rfl, h4, r4⟩ := trodAll_cons r3
  obtain ⟨rfl, rfl, rfl⟩ := trodAll_nil r4
  obtain rfl : args = #[v0, v1, v2, v3, v4] := by cases args; simp_all
  obtain ⟨rfl, rfl⟩ := trodVars_none hV
  obtain ⟨a0, rfl, rfl, rfl, w0⟩ := open_int Try.underlying48 (hval 0 48 v0 rfl rfl) h0
  obtain ⟨a1, rfl, rfl, rfl, w1⟩ := open_int Try.underlying5 (hval 1 5 v1 rfl rfl) h1
  obtain ⟨a2, rfl, rfl, rfl, w2⟩ := open_int Try.underlying31 (hval 2 31 v2 rfl rfl) h2
  obtain ⟨a3, rfl, rfl, rfl, w3⟩ := open_int Try.underlying5 (hval 3 5 v3 rfl rfl) h3
  obtain ⟨a4, rfl, rfl, rfl, w4⟩ := open_int Try.underlying31 (hval 4 31 v4 rfl rfl) h4
  clear hA0 hval0
  refine (walk a0 a1 a2 a3 a4 W w0 w1 w2 w3 w4).mono fun e W' ⟨he, bel⟩ => ?_
  subst he
  exact ⟨_, rfl, _, _, _, [], _, [], hW', trodAll_mk1 (shut_bool Try.underlying4 _), (trodAll_cons_mk (shut_int Try.underlying48 w0) (trodAll_cons_mk (shut_int Try.underlying5 w1) (trodAll_cons_mk (shut_int Try.underlying31 w2) (trodAll_cons_mk (shut_int Try.underlying5 w3) (trodAll_cons_mk (shut_int Try.underlying31 w4) trodAll_mk0))))), rfl, bel.frame _, fun h => by cases h⟩

theorem over : Rows.cellsOrderRow.holds Try.pinned (OpenSpec.ofChange Rows.cellsOrderSpec) :=
  OpenClaim.holds_of_wide 7 Try.f7 rfl rfl rfl rfl rfl rfl rfl ⟨rfl, rfl, rfl, rfl, rfl⟩ rfl rfl rfl rfl rfl (by kernel_rfl) Try.func7 (by kernel_rfl)
    (of_decide_eq_true (by kernel_rfl)) (by unfold Func.isWrapper; first | (rw [if_pos (by decide +kernel)]; kernel_rfl) | (rw [if_neg (by decide +kernel)]; exact ⟨rfl, rfl⟩))
    (fun os started H enc _ => lifted os started H enc)

/-- The statement. -/
theorem proved : Rows.CellsOrderSaid := over
#print axioms proved
end Go.Proofs.Ytpcahaihlcaabaa.cellsOrder
