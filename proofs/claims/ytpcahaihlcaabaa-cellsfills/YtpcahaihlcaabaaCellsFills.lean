/-
  CellsFills is true whatever the input: what is filled is got at each of its places, and not beyond; no conditions.
-/
import Derived.Test.YtpcahaihlcaabaaRows
import Derived.WalkKit
import Derived.ProofKit
import Derived.OpenShut
import Derived.ShutString
import Derived.ChangeOld
import Derived.Below
import Derived.Test.YtpcahaihlcaabaaEx4
import Derived.Deep.DeepCutAuto
namespace Go.Proofs.Ytpcahaihlcaabaa.cellsFills
open Go.ChangeShapes Go.WideShapes Go.ChangeAt Go.RowKit
set_option linter.unusedVariables false

theorem own : ownKnob Try.prog.godebug = none := by kernel_rfl

theorem bytes_x (k : Nat) (hk : k = 1 ∨ k = 2 ∨ k = 4 ∨ k = 8) (x g : Nat) (E : List UInt8) (hx : x < 18446744073709551616) (hE : M.enc k x = E) (w : World) (hc : w.cell? ⟨g, 0, none⟩ = some (.int .u64 x)) :
    Calls Try.prog 23 #[.int .i64 k, .slice (some ⟨g, 0, none⟩) 1 1] w fun e w' =>
      ∃ A c, e = .returned (.slice A k c) ∧ Lies w' A (u8s E) ∧ Below w.heap.size w w' := by
  refine (bytes_one k hk x g _ hx w rfl hc).mono ?_
  rintro e w' ⟨rfl, o, b⟩
  exact ⟨_, _, rfl, by rw [← hE]; exact o.lies, b⟩
theorem zero_num (b n : Nat) : M.num (M.rd (fun _ => 0) b n) = 0 := by
  induction n generalizing b with
  | zero => rfl
  | succ n ih => rw [show n + 1 = 1 + n by omega, M.rd_add, M.num_append, ih]; simp [M.rd, M.num]
theorem at_get_of {w0 w : World} {s P T : Nat} {f : Nat → UInt8} {O : Nat → Prop} (h : At w0 w s P T f O) (z : Int) (a k v : Nat) (hz : z = (a : Int)) (hv : M.num (M.rd f a k) = v) (hk : k = 1 ∨ k = 2 ∨ k = 4 ∨ k = 8) (hd : a % k = 0) (hin : a + k ≤ P * 4096) (hT : T ≤ 900000000000) :
    Calls Try.prog 14 #[.pointer (some ⟨s, 0, none⟩), .int .u64 z, .int .i64 k] w fun e w' =>
      e = .returned (.tuple #[.int .u64 (v : Int), .int .i64 0]) ∧ At w0 w' s P (T + 1) f O ∧ Kept w w' O := by
  subst hz hv
  exact at_get h a k hk hd hin hT
/-- What stands behind some rounds. -/
structure Fills (w0 w : World) (s g : Nat) (E : List UInt8) (f : Nat → UInt8) (O : Nat → Prop) (T0 t j T : Nat) : Prop where
  le : j ≤ t
  at' : At w0 w s 32 T f O
  tk : T ≤ T0 + j
  row : Loose w O g E
theorem fills_next {w0 w w' : World} {s g : Nat} {E : List UInt8} {f : Nat → UInt8} {O : Nat → Prop} {T0 t j T : Nat} (h : Fills w0 w s g E f O T0 t j T) (b : Below w.heap.size w w') : Fills w0 w' s g E f O T0 t j T :=
  ⟨h.le, h.at'.same b, h.tk, h.row.kept (Kept.of_below b O)⟩

/-! The walk. -/
set_option maxRecDepth 20000 in
set_option maxHeartbeats 20000000 in
theorem walk (a0 : Int) (a1 : Int) (a2 : Int) (a3 : Int) (w : World) (w0 : (Lit.int .u16 a0).wf = true) (w1 : (Lit.int .u8 a1).wf = true) (w2 : (Lit.int .u64 a2).wf = true) (w3 : (Lit.int .u8 a3).wf = true) :
    Calls Try.prog 6 #[.int .u16 a0, .int .u8 a1, .int .u64 a2, .int .u8 a3] w fun e w' => e = .returned (.bool true) ∧ Below w.heap.size w w' := by
  obtain ⟨at', hat, rfl⟩ := u16_nat w0
  obtain ⟨kk, hkk, rfl⟩ := u8_nat w1
  obtain ⟨n, hn, rfl⟩ := u64_nat w2
  obtain ⟨t, ht, rfl⟩ := u8_nat w3
  clear w0 w1 w2 w3
  obtain ⟨a, ha⟩ : ∃ a, a = at' / 8 * 8 := ⟨_, rfl⟩
  have hA : (at' : Int) / 8 * 8 = (a : Int) := by omega
  have ha8 : a % 8 = 0 := by omega
  have ha9 : a < 65536 := by omega
  clear ha
  rcases (show kk % 4 = 0 ∨ kk % 4 = 1 ∨ kk % 4 = 2 ∨ kk % 4 = 3 by omega) with hr | hr | hr | hr
  · have hm : (kk : Int) % 4 = 0 := by omega
    clear hr
    obtain ⟨E, hE⟩ : ∃ E, E = M.enc 1 n := ⟨_, rfl⟩
    have hEl : E.length = 1 := by rw [hE, M.enc_length]
    obtain ⟨x, hx⟩ : ∃ x, x = n % 256 ^ 1 := ⟨_, rfl⟩
    have hEx : M.enc 1 x = E := by rw [hx, M.enc_mod, hE]
    have hx64 : x < 18446744073709551616 := by rw [hx]; exact Nat.lt_of_lt_of_le (Nat.mod_lt _ (by decide)) (by decide)
    have hEn : M.num E = x := by rw [hE, M.num_enc, hx]
    have HE := Lib.hid (And.intro hE (And.intro hEl (And.intro hEx hEn)))
    clear hE hEl hEx hEn hx
    go_enter Try.func6, Try.ntmps6
    go_wp2_with fail
    refine (awake_any _).mono ?_
    rintro e w1 ⟨rfl, b1⟩
    have B1 := Lib.hid b1
    clear b1
    go_wp2_with fail
    refine (at_new (w0 := w) B1.out _ 32 (by decide)).mono ?_
    rintro e w2 ⟨s, O2, rfl, A2⟩
    have H2 := Lib.hid A2
    clear A2
    go_wp2_with fail
    refine (at_fill H2.out a 1 n t (by omega) (by omega) (by omega) (by omega) (by omega) hn (by omega)).mono ?_
    rw [← HE.out.1]
    rintro e w3 ⟨rfl, A3, _⟩
    have hT0 := H2.out.tl a (1 * t) (by omega)
    generalize M.touched a (1 * t) = T0 at *
    obtain ⟨f, hf⟩ : ∃ f, f = M.wr (fun _ => 0) a (M.rep E t) := ⟨_, rfl⟩
    rw [← hf] at A3
    generalize Wid O2 w2 w3 = O at *
    have H3 := Lib.hid (And.intro hf A3)
    clear A3 H2 hf
    go_wp2_with fail
    refine (bytes_one 1 (by omega) n w3.heap.size (w3.heap.size + 1) hn _ (by simp) (World.cell?_alloc_mark _ _ _ _ _)).mono ?_
    rw [← HE.out.1]
    rintro e w4 ⟨rfl, o4, b4⟩
    have F4 : Fills w w4 s (w3.heap.size + 1) E f O T0 t 0 (0 + T0) := by
      have zz : (w3.alloc (.cells #[.int .u64 (n : Int)] 31)).heap.size = w3.heap.size + 1 := by simp
      have bb := below_call ((Below.refl w3.heap.size w3).alloc (Nat.le_refl _) (.cells #[.int .u64 (n : Int)] 31)) b4
      exact ⟨Nat.zero_le _, H3.out.2.same bb, by omega, ⟨o4, fun e => by have := H3.out.2.sp.lt e; omega, o4.lt (by rw [HE.out.2.1]; decide)⟩⟩
    have H4 := Lib.hid F4
    clear F4 o4 b4 hm hA
    generalize w3.heap.size + 1 = g at *
    go_wp2_with fail
    go_loopw [15] (fun i wr => ∃ j T : Nat, i = .int .i64 j ∧ Fills w wr s g E f O T0 t j T) (fun i _ => t - (intOf i).toNat)
    case atStart => exact ⟨0, _, rfl, H4.out⟩
    case round =>
      obtain ⟨j, T, rfl, hF⟩ := hrel
      have hjt := hF.le
      have hTj := hF.tk
      have HF := Lib.hid hF
      clear hF H4
      by_cases hlt : j < t
      · have hnum : M.num (M.rd f (a + j * 1) 1) = x := by
          have h := M.rd_rep (fun _ => 0) a E t j hlt
          rw [HE.out.2.1] at h
          rw [H3.out.1, h, HE.out.2.2.2]
        have HN := Lib.hid hnum
        clear hnum
        go_wp2_with fail
        refine (at_get_of HF.out.at' _ (a + j * 1) 1 x (by omega) HN.out (by omega) (by omega) (by omega) (by omega)).mono ?_
        rintro e w5 ⟨rfl, A5, k5⟩
        have F5 := Lib.hid (show At w w5 s 32 (T + 1) f O ∧ Loose w5 O g E from ⟨A5, HF.out.row.kept k5⟩)
        clear A5 k5
        go_upto_region 15 with fail
        have L5 := F5.out.2.own.lies
        have q0 := conv_at w5.drew (some ⟨g, 0, none⟩) 1 E 1 HE.out.2.1.symm L5.drew
        have q1 := fun o => conv_at (w5.alloc o).drew (some ⟨g, 0, none⟩) 1 E 1 HE.out.2.1.symm (L5.alloc o).drew
        have Q5 := Lib.hid L5
        clear L5
        go_cut [75] (fun v wx => v = .bool false ∧ Below w5.heap.size w5 wx)
        case first =>
          go_region_with ((go_at_call 23; refine (bytes_x 1 (by omega) x _ E hx64 HE.out.2.2.1 _ ?_).mono ?_; · (simp [go_sem]; done)
                           rintro e w6 ⟨A6, c6, rfl, hl6, hb6⟩
                           have hB6 : Below w5.heap.size w5 w6 := below_call (by repeat (first | exact Below.refl _ _ | refine Below.drew ?_ | refine Below.alloc ?_ (by simp) _)) hb6
                           have q2 := conv_at w6 A6 1 E c6 HE.out.2.1.symm hl6
                           have q3 := conv_at w6 (some ⟨g, 0, none⟩) 1 E 1 HE.out.2.1.symm (Q5.out.below hB6)))
          all_goals
            go_wp2_with fail
            go_meet
            exact ⟨by simp, hB6⟩
        case rest =>
          obtain ⟨rfl, bx⟩ := hcut
          have F6 := Lib.hid (show Fills w wc s g E f O T0 t (j + 1) (T + 1) from ⟨by omega, F5.out.1.same bx, by omega, F5.out.2.kept (Kept.of_below bx O)⟩)
          clear q0 q1 bx
          go_wp2_with fail
          go_roundw
          case rel => exact ⟨j + 1, T + 1, by go_num, F6.out⟩
          case measure => simp [intOf]; omega
      · obtain rfl : j = t := by omega
        clear hlt
        have hfar : M.num (M.rd f (a + j * 1) 1) = 0 := by
          rw [H3.out.1, M.rd_wr_apart _ _ _ _ _ (Or.inr (by rw [M.rep_length, HE.out.2.1]; omega)), zero_num]
        have HN := Lib.hid hfar
        clear hfar
        go_wp2_with fail
        go_loop [18, 19] (fun x i => ∃ q : Nat, q ≤ j ∧ x = .int .u64 ((a + q * 1 : Nat) : Int) ∧ i = .int .i64 q) (fun _ i => j - (intOf i).toNat)
        case atStart => exact ⟨0, by omega, by simp, rfl⟩
        case round =>
          obtain ⟨q, hq, rfl, rfl⟩ := hrel
          by_cases hlt : q < j
          · go_wp2_with fail
            go_round
            case rel => exact ⟨q + 1, by omega, by go_num, by go_num⟩
            case measure => simp [intOf]; omega
          · obtain rfl : q = j := by omega
            clear hlt
            go_wp2_with fail
            refine (at_get_of HF.out.at' _ (a + q * 1) 1 0 (by omega) HN.out (by omega) (by omega) (by omega) (by omega)).mono ?_
            rintro e w5 ⟨rfl, A5, k5⟩
            have F5 := Lib.hid A5
            clear A5 k5
            go_wp2_with fail
            go_ret
            exact ⟨rfl, F5.out.bel⟩
  · have hm : (kk : Int) % 4 = 1 := by omega
    clear hr
    obtain ⟨E, hE⟩ : ∃ E, E = M.enc 2 n := ⟨_, rfl⟩
    have hEl : E.length = 2 := by rw [hE, M.enc_length]
    obtain ⟨x, hx⟩ : ∃ x, x = n % 256 ^ 2 := ⟨_, rfl⟩
    have hEx : M.enc 2 x = E := by rw [hx, M.enc_mod, hE]
    have hx64 : x < 18446744073709551616 := by rw [hx]; exact Nat.lt_of_lt_of_le (Nat.mod_lt _ (by decide)) (by decide)
    have hEn : M.num E = x := by rw [hE, M.num_enc, hx]
    have HE := Lib.hid (And.intro hE (And.intro hEl (And.intro hEx hEn)))
    clear hE hEl hEx hEn hx
    go_enter Try.func6, Try.ntmps6
    go_wp2_with fail
    refine (awake_any _).mono ?_
    rintro e w1 ⟨rfl, b1⟩
    have B1 := Lib.hid b1
    clear b1
    go_wp2_with fail
    refine (at_new (w0 := w) B1.out _ 32 (by decide)).mono ?_
    rintro e w2 ⟨s, O2, rfl, A2⟩
    have H2 := Lib.hid A2
    clear A2
    go_wp2_with fail
    refine (at_fill H2.out a 2 n t (by omega) (by omega) (by omega) (by omega) (by omega) hn (by omega)).mono ?_
    rw [← HE.out.1]
    rintro e w3 ⟨rfl, A3, _⟩
    have hT0 := H2.out.tl a (2 * t) (by omega)
    generalize M.touched a (2 * t) = T0 at *
    obtain ⟨f, hf⟩ : ∃ f, f = M.wr (fun _ => 0) a (M.rep E t) := ⟨_, rfl⟩
    rw [← hf] at A3
    generalize Wid O2 w2 w3 = O at *
    have H3 := Lib.hid (And.intro hf A3)
    clear A3 H2 hf
    go_wp2_with fail
    refine (bytes_one 2 (by omega) n w3.heap.size (w3.heap.size + 1) hn _ (by simp) (World.cell?_alloc_mark _ _ _ _ _)).mono ?_
    rw [← HE.out.1]
    rintro e w4 ⟨rfl, o4, b4⟩
    have F4 : Fills w w4 s (w3.heap.size + 1) E f O T0 t 0 (0 + T0) := by
      have zz : (w3.alloc (.cells #[.int .u64 (n : Int)] 31)).heap.size = w3.heap.size + 1 := by simp
      have bb := below_call ((Below.refl w3.heap.size w3).alloc (Nat.le_refl _) (.cells #[.int .u64 (n : Int)] 31)) b4
      exact ⟨Nat.zero_le _, H3.out.2.same bb, by omega, ⟨o4, fun e => by have := H3.out.2.sp.lt e; omega, o4.lt (by rw [HE.out.2.1]; decide)⟩⟩
    have H4 := Lib.hid F4
    clear F4 o4 b4 hm hA
    generalize w3.heap.size + 1 = g at *
    go_wp2_with fail
    go_loopw [15] (fun i wr => ∃ j T : Nat, i = .int .i64 j ∧ Fills w wr s g E f O T0 t j T) (fun i _ => t - (intOf i).toNat)
    case atStart => exact ⟨0, _, rfl, H4.out⟩
    case round =>
      obtain ⟨j, T, rfl, hF⟩ := hrel
      have hjt := hF.le
      have hTj := hF.tk
      have HF := Lib.hid hF
      clear hF H4
      by_cases hlt : j < t
      · have hnum : M.num (M.rd f (a + j * 2) 2) = x := by
          have h := M.rd_rep (fun _ => 0) a E t j hlt
          rw [HE.out.2.1] at h
          rw [H3.out.1, h, HE.out.2.2.2]
        have HN := Lib.hid hnum
        clear hnum
        go_wp2_with fail
        refine (at_get_of HF.out.at' _ (a + j * 2) 2 x (by omega) HN.out (by omega) (by omega) (by omega) (by omega)).mono ?_
        rintro e w5 ⟨rfl, A5, k5⟩
        have F5 := Lib.hid (show At w w5 s 32 (T + 1) f O ∧ Loose w5 O g E from ⟨A5, HF.out.row.kept k5⟩)
        clear A5 k5
        go_upto_region 15 with fail
        have L5 := F5.out.2.own.lies
        have q0 := conv_at w5.drew (some ⟨g, 0, none⟩) 2 E 2 HE.out.2.1.symm L5.drew
        have q1 := fun o => conv_at (w5.alloc o).drew (some ⟨g, 0, none⟩) 2 E 2 HE.out.2.1.symm (L5.alloc o).drew
        have Q5 := Lib.hid L5
        clear L5
        go_cut [75] (fun v wx => v = .bool false ∧ Below w5.heap.size w5 wx)
        case first =>
          go_region_with ((go_at_call 23; refine (bytes_x 2 (by omega) x _ E hx64 HE.out.2.2.1 _ ?_).mono ?_; · (simp [go_sem]; done)
                           rintro e w6 ⟨A6, c6, rfl, hl6, hb6⟩
                           have hB6 : Below w5.heap.size w5 w6 := below_call (by repeat (first | exact Below.refl _ _ | refine Below.drew ?_ | refine Below.alloc ?_ (by simp) _)) hb6
                           have q2 := conv_at w6 A6 2 E c6 HE.out.2.1.symm hl6
                           have q3 := conv_at w6 (some ⟨g, 0, none⟩) 2 E 2 HE.out.2.1.symm (Q5.out.below hB6)))
          all_goals
            go_wp2_with fail
            go_meet
            exact ⟨by simp, hB6⟩
        case rest =>
          obtain ⟨rfl, bx⟩ := hcut
          have F6 := Lib.hid (show Fills w wc s g E f O T0 t (j + 1) (T + 1) from ⟨by omega, F5.out.1.same bx, by omega, F5.out.2.kept (Kept.of_below bx O)⟩)
          clear q0 q1 bx
          go_wp2_with fail
          go_roundw
          case rel => exact ⟨j + 1, T + 1, by go_num, F6.out⟩
          case measure => simp [intOf]; omega
      · obtain rfl : j = t := by omega
        clear hlt
        have hfar : M.num (M.rd f (a + j * 2) 2) = 0 := by
          rw [H3.out.1, M.rd_wr_apart _ _ _ _ _ (Or.inr (by rw [M.rep_length, HE.out.2.1]; omega)), zero_num]
        have HN := Lib.hid hfar
        clear hfar
        go_wp2_with fail
        go_loop [18, 19] (fun x i => ∃ q : Nat, q ≤ j ∧ x = .int .u64 ((a + q * 2 : Nat) : Int) ∧ i = .int .i64 q) (fun _ i => j - (intOf i).toNat)
        case atStart => exact ⟨0, by omega, by simp, rfl⟩
        case round =>
          obtain ⟨q, hq, rfl, rfl⟩ := hrel
          by_cases hlt : q < j
          · go_wp2_with fail
            go_round
            case rel => exact ⟨q + 1, by omega, by go_num, by go_num⟩
            case measure => simp [intOf]; omega
          · obtain rfl : q = j := by omega
            clear hlt
            go_wp2_with fail
            refine (at_get_of HF.out.at' _ (a + q * 2) 2 0 (by omega) HN.out (by omega) (by omega) (by omega) (by omega)).mono ?_
            rintro e w5 ⟨rfl, A5, k5⟩
            have F5 := Lib.hid A5
            clear A5 k5
            go_wp2_with fail
            go_ret
            exact ⟨rfl, F5.out.bel⟩
  · have hm : (kk : Int) % 4 = 2 := by omega
    clear hr
    obtain ⟨E, hE⟩ : ∃ E, E = M.enc 4 n := ⟨_, rfl⟩
    have hEl : E.length = 4 := by rw [hE, M.enc_length]
    obtain ⟨x, hx⟩ : ∃ x, x = n % 256 ^ 4 := ⟨_, rfl⟩
    have hEx : M.enc 4 x = E := by rw [hx, M.enc_mod, hE]
    have hx64 : x < 18446744073709551616 := by rw [hx]; exact Nat.lt_of_lt_of_le (Nat.mod_lt _ (by decide)) (by decide)
    have hEn : M.num E = x := by rw [hE, M.num_enc, hx]
    have HE := Lib.hid (And.intro hE (And.intro hEl (And.intro hEx hEn)))
    clear hE hEl hEx hEn hx
    go_enter Try.func6, Try.ntmps6
    go_wp2_with fail
    refine (awake_any _).mono ?_
    rintro e w1 ⟨rfl, b1⟩
    have B1 := Lib.hid b1
    clear b1
    go_wp2_with fail
    refine (at_new (w0 := w) B1.out _ 32 (by decide)).mono ?_
    rintro e w2 ⟨s, O2, rfl, A2⟩
    have H2 := Lib.hid A2
    clear A2
    go_wp2_with fail
    refine (at_fill H2.out a 4 n t (by omega) (by omega) (by omega) (by omega) (by omega) hn (by omega)).mono ?_
    rw [← HE.out.1]
    rintro e w3 ⟨rfl, A3, _⟩
    have hT0 := H2.out.tl a (4 * t) (by omega)
    generalize M.touched a (4 * t) = T0 at *
    obtain ⟨f, hf⟩ : ∃ f, f = M.wr (fun _ => 0) a (M.rep E t) := ⟨_, rfl⟩
    rw [← hf] at A3
    generalize Wid O2 w2 w3 = O at *
    have H3 := Lib.hid (And.intro hf A3)
    clear A3 H2 hf
    go_wp2_with fail
    refine (bytes_one 4 (by omega) n w3.heap.size (w3.heap.size + 1) hn _ (by simp) (World.cell?_alloc_mark _ _ _ _ _)).mono ?_
    rw [← HE.out.1]
    rintro e w4 ⟨rfl, o4, b4⟩
    have F4 : Fills w w4 s (w3.heap.size + 1) E f O T0 t 0 (0 + T0) := by
      have zz : (w3.alloc (.cells #[.int .u64 (n : Int)] 31)).heap.size = w3.heap.size + 1 := by simp
      have bb := below_call ((Below.refl w3.heap.size w3).alloc (Nat.le_refl _) (.cells #[.int .u64 (n : Int)] 31)) b4
      exact ⟨Nat.zero_le _, H3.out.2.same bb, by omega, ⟨o4, fun e => by have := H3.out.2.sp.lt e; omega, o4.lt (by rw [HE.out.2.1]; decide)⟩⟩
    have H4 := Lib.hid F4
    clear F4 o4 b4 hm hA
    generalize w3.heap.size + 1 = g at *
    go_wp2_with fail
    go_loopw [15] (fun i wr => ∃ j T : Nat, i = .int .i64 j ∧ Fills w wr s g E f O T0 t j T) (fun i _ => t - (intOf i).toNat)
    case atStart => exact ⟨0, _, rfl, H4.out⟩
    case round =>
      obtain ⟨j, T, rfl, hF⟩ := hrel
      have hjt := hF.le
      have hTj := hF.tk
      have HF := Lib.hid hF
      clear hF H4
      by_cases hlt : j < t
      · have hnum : M.num (M.rd f (a + j * 4) 4) = x := by
          have h := M.rd_rep (fun _ => 0) a E t j hlt
          rw [HE.out.2.1] at h
          rw [H3.out.1, h, HE.out.2.2.2]
        have HN := Lib.hid hnum
        clear hnum
        go_wp2_with fail
        refine (at_get_of HF.out.at' _ (a + j * 4) 4 x (by omega) HN.out (by omega) (by omega) (by omega) (by omega)).mono ?_
        rintro e w5 ⟨rfl, A5, k5⟩
        have F5 := Lib.hid (show At w w5 s 32 (T + 1) f O ∧ Loose w5 O g E from ⟨A5, HF.out.row.kept k5⟩)
        clear A5 k5
        go_upto_region 15 with fail
        have L5 := F5.out.2.own.lies
        have q0 := conv_at w5.drew (some ⟨g, 0, none⟩) 4 E 4 HE.out.2.1.symm L5.drew
        have q1 := fun o => conv_at (w5.alloc o).drew (some ⟨g, 0, none⟩) 4 E 4 HE.out.2.1.symm (L5.alloc o).drew
        have Q5 := Lib.hid L5
        clear L5
        go_cut [75] (fun v wx => v = .bool false ∧ Below w5.heap.size w5 wx)
        case first =>
          go_region_with ((go_at_call 23; refine (bytes_x 4 (by omega) x _ E hx64 HE.out.2.2.1 _ ?_).mono ?_; · (simp [go_sem]; done)
                           rintro e w6 ⟨A6, c6, rfl, hl6, hb6⟩
                           have hB6 : Below w5.heap.size w5 w6 := below_call (by repeat (first | exact Below.refl _ _ | refine Below.drew ?_ | refine Below.alloc ?_ (by simp) _)) hb6
                           have q2 := conv_at w6 A6 4 E c6 HE.out.2.1.symm hl6
                           have q3 := conv_at w6 (some ⟨g, 0, none⟩) 4 E 4 HE.out.2.1.symm (Q5.out.below hB6)))
          all_goals
            go_wp2_with fail
            go_meet
            exact ⟨by simp, hB6⟩
        case rest =>
          obtain ⟨rfl, bx⟩ := hcut
          have F6 := Lib.hid (show Fills w wc s g E f O T0 t (j + 1) (T + 1) from ⟨by omega, F5.out.1.same bx, by omega, F5.out.2.kept (Kept.of_below bx O)⟩)
          clear q0 q1 bx
          go_wp2_with fail
          go_roundw
          case rel => exact ⟨j + 1, T + 1, by go_num, F6.out⟩
          case measure => simp [intOf]; omega
      · obtain rfl : j = t := by omega
        clear hlt
        have hfar : M.num (M.rd f (a + j * 4) 4) = 0 := by
          rw [H3.out.1, M.rd_wr_apart _ _ _ _ _ (Or.inr (by rw [M.rep_length, HE.out.2.1]; omega)), zero_num]
        have HN := Lib.hid hfar
        clear hfar
        go_wp2_with fail
        go_loop [18, 19] (fun x i => ∃ q : Nat, q ≤ j ∧ x = .int .u64 ((a + q * 4 : Nat) : Int) ∧ i = .int .i64 q) (fun _ i => j - (intOf i).toNat)
        case atStart => exact ⟨0, by omega, by simp, rfl⟩
        case round =>
          obtain ⟨q, hq, rfl, rfl⟩ := hrel
          by_cases hlt : q < j
          · go_wp2_with fail
            go_round
            case rel => exact ⟨q + 1, by omega, by go_num, by go_num⟩
            case measure => simp [intOf]; omega
          · obtain rfl : q = j := by omega
            clear hlt
            go_wp2_with fail
            refine (at_get_of HF.out.at' _ (a + q * 4) 4 0 (by omega) HN.out (by omega) (by omega) (by omega) (by omega)).mono ?_
            rintro e w5 ⟨rfl, A5, k5⟩
            have F5 := Lib.hid A5
            clear A5 k5
            go_wp2_with fail
            go_ret
            exact ⟨rfl, F5.out.bel⟩
  · have hm : (kk : Int) % 4 = 3 := by omega
    clear hr
    obtain ⟨E, hE⟩ : ∃ E, E = M.enc 8 n := ⟨_, rfl⟩
    have hEl : E.length = 8 := by rw [hE, M.enc_length]
    obtain ⟨x, hx⟩ : ∃ x, x = n % 256 ^ 8 := ⟨_, rfl⟩
    have hEx : M.enc 8 x = E := by rw [hx, M.enc_mod, hE]
    have hx64 : x < 18446744073709551616 := by rw [hx]; exact Nat.lt_of_lt_of_le (Nat.mod_lt _ (by decide)) (by decide)
    have hEn : M.num E = x := by rw [hE, M.num_enc, hx]
    have HE := Lib.hid (And.intro hE (And.intro hEl (And.intro hEx hEn)))
    clear hE hEl hEx hEn hx
    go_enter Try.func6, Try.ntmps6
    go_wp2_with fail
    refine (awake_any _).mono ?_
    rintro e w1 ⟨rfl, b1⟩
    have B1 := Lib.hid b1
    clear b1
    go_wp2_with fail
    refine (at_new (w0 := w) B1.out _ 32 (by decide)).mono ?_
    rintro e w2 ⟨s, O2, rfl, A2⟩
    have H2 := Lib.hid A2
    clear A2
    go_wp2_with fail
    refine (at_fill H2.out a 8 n t (by omega) (by omega) (by omega) (by omega) (by omega) hn (by omega)).mono ?_
    rw [← HE.out.1]
    rintro e w3 ⟨rfl, A3, _⟩
    have hT0 := H2.out.tl a (8 * t) (by omega)
    generalize M.touched a (8 * t) = T0 at *
    obtain ⟨f, hf⟩ : ∃ f, f = M.wr (fun _ => 0) a (M.rep E t) := ⟨_, rfl⟩
    rw [← hf] at A3
    generalize Wid O2 w2 w3 = O at *
    have H3 := Lib.hid (And.intro hf A3)
    clear A3 H2 hf
    go_wp2_with fail
    refine (bytes_one 8 (by omega) n w3.heap.size (w3.heap.size + 1) hn _ (by simp) (World.cell?_alloc_mark _ _ _ _ _)).mono ?_
    rw [← HE.out.1]
    rintro e w4 ⟨rfl, o4, b4⟩
    have F4 : Fills w w4 s (w3.heap.size + 1) E f O T0 t 0 (0 + T0) := by
      have zz : (w3.alloc (.cells #[.int .u64 (n : Int)] 31)).heap.size = w3.heap.size + 1 := by simp
      have bb := below_call ((Below.refl w3.heap.size w3).alloc (Nat.le_refl _) (.cells #[.int .u64 (n : Int)] 31)) b4
      exact ⟨Nat.zero_le _, H3.out.2.same bb, by omega, ⟨o4, fun e => by have := H3.out.2.sp.lt e; omega, o4.lt (by rw [HE.out.2.1]; decide)⟩⟩
    have H4 := Lib.hid F4
    clear F4 o4 b4 hm hA
    generalize w3.heap.size + 1 = g at *
    go_wp2_with fail
    go_loopw [15] (fun i wr => ∃ j T : Nat, i = .int .i64 j ∧ Fills w wr s g E f O T0 t j T) (fun i _ => t - (intOf i).toNat)
    case atStart => exact ⟨0, _, rfl, H4.out⟩
    case round =>
      obtain ⟨j, T, rfl, hF⟩ := hrel
      have hjt := hF.le
      have hTj := hF.tk
      have HF := Lib.hid hF
      clear hF H4
      by_cases hlt : j < t
      · have hnum : M.num (M.rd f (a + j * 8) 8) = x := by
          have h := M.rd_rep (fun _ => 0) a E t j hlt
          rw [HE.out.2.1] at h
          rw [H3.out.1, h, HE.out.2.2.2]
        have HN := Lib.hid hnum
        clear hnum
        go_wp2_with fail
        refine (at_get_of HF.out.at' _ (a + j * 8) 8 x (by omega) HN.out (by omega) (by omega) (by omega) (by omega)).mono ?_
        rintro e w5 ⟨rfl, A5, k5⟩
        have F5 := Lib.hid (show At w w5 s 32 (T + 1) f O ∧ Loose w5 O g E from ⟨A5, HF.out.row.kept k5⟩)
        clear A5 k5
        go_upto_region 15 with fail
        have L5 := F5.out.2.own.lies
        have q0 := conv_at w5.drew (some ⟨g, 0, none⟩) 8 E 8 HE.out.2.1.symm L5.drew
        have q1 := fun o => conv_at (w5.alloc o).drew (some ⟨g, 0, none⟩) 8 E 8 HE.out.2.1.symm (L5.alloc o).drew
        have Q5 := Lib.hid L5
        clear L5
        go_cut [75] (fun v wx => v = .bool false ∧ Below w5.heap.size w5 wx)
        case first =>
          go_region_with ((go_at_call 23; refine (bytes_x 8 (by omega) x _ E hx64 HE.out.2.2.1 _ ?_).mono ?_; · (simp [go_sem]; done)
                           rintro e w6 ⟨A6, c6, rfl, hl6, hb6⟩
                           have hB6 : Below w5.heap.size w5 w6 := below_call (by repeat (first | exact Below.refl _ _ | refine Below.drew ?_ | refine Below.alloc ?_ (by simp) _)) hb6
                           have q2 := conv_at w6 A6 8 E c6 HE.out.2.1.symm hl6
                           have q3 := conv_at w6 (some ⟨g, 0, none⟩) 8 E 8 HE.out.2.1.symm (Q5.out.below hB6)))
          all_goals
            go_wp2_with fail
            go_meet
            exact ⟨by simp, hB6⟩
        case rest =>
          obtain ⟨rfl, bx⟩ := hcut
          have F6 := Lib.hid (show Fills w wc s g E f O T0 t (j + 1) (T + 1) from ⟨by omega, F5.out.1.same bx, by omega, F5.out.2.kept (Kept.of_below bx O)⟩)
          clear q0 q1 bx
          go_wp2_with fail
          go_roundw
          case rel => exact ⟨j + 1, T + 1, by go_num, F6.out⟩
          case measure => simp [intOf]; omega
      · obtain rfl : j = t := by omega
        clear hlt
        have hfar : M.num (M.rd f (a + j * 8) 8) = 0 := by
          rw [H3.out.1, M.rd_wr_apart _ _ _ _ _ (Or.inr (by rw [M.rep_length, HE.out.2.1]; omega)), zero_num]
        have HN := Lib.hid hfar
        clear hfar
        go_wp2_with fail
        go_loop [18, 19] (fun x i => ∃ q : Nat, q ≤ j ∧ x = .int .u64 ((a + q * 8 : Nat) : Int) ∧ i = .int .i64 q) (fun _ i => j - (intOf i).toNat)
        case atStart => exact ⟨0, by omega, by simp, rfl⟩
        case round =>
          obtain ⟨q, hq, rfl, rfl⟩ := hrel
          by_cases hlt : q < j
          · go_wp2_with fail
            go_round
            case rel => exact ⟨q + 1, by omega, by go_num, by go_num⟩
            case measure => simp [intOf]; omega
          · obtain rfl : q = j := by omega
            clear hlt
            go_wp2_with fail
            refine (at_get_of HF.out.at' _ (a + q * 8) 8 0 (by omega) HN.out (by omega) (by omega) (by omega) (by omega)).mono ?_
            rintro e w5 ⟨rfl, A5, k5⟩
            have F5 := Lib.hid A5
            clear A5 k5
            go_wp2_with fail
            go_ret
            exact ⟨rfl, F5.out.bel⟩

/-! The row's step. -/
set_option maxRecDepth 100000 in
theorem lifted (os : Os) (started : os.Started) (H : Type) (enc : TypeId × Value → H) :
    ReturnsInHanded {} Try.checked os 6 .any (Rows.cellsFillsSpec.pre6 enc Try.prog Try.f6 Rows.cellsFillsRow.domain false) (Rows.cellsFillsSpec.post enc Try.prog Try.f6 false true false false) := by
  refine returnsInHanded_of_change (C := Try.checked) own started (by kernel_rfl) Try.func6
    (ChangeSpec.witness6 (enc := enc) (C := Try.checked) false ⟨#[], #[.int .u16 0, .int .u8 0, .int .u64 0, .int .u8 0], []⟩ 8 (by kernel_rfl) (by kernel_rfl) (by kernel_rfl) (by kernel_rfl)) ?_
  intro W base args ds gs before hval0 hW hcnd _
  have hval : ∀ (j : Nat) t v, Try.f6.params[j]? = some t → args[j]? = some v → Value.okWide Try.prog W .any base t v := hval0
  have hW' := hW
  obtain ⟨p, q, hA0, hV, rfl, hfz, hnd⟩ := hW
  have hA : DataW.TrodAll enc Try.prog W 0 (fun _ => true) true Try.f6.params.toList args.toList ds p := hA0
  rw [Try.params6] at hA hval
  obtain ⟨v0, vs0, d0, ds0, p0, q0, hargs, rfl, rfl, h0, r0⟩ := trodAll_cons hA
  obtain ⟨v1, vs1, d1, ds1, p1, q1, rfl, rfl, rfl, h1, r1⟩ := trodAll_cons r0
  obtain ⟨v2, vs2, d2, ds2, p2, q2, rfl, rfl, rfl, h2, r2⟩ := trodAll_cons r1
  obtain ⟨v3, vs3, d3, ds3, p3, q3, rfl, rfl, rfl, h3, r3⟩ := trodAll_cons r2
  obtain ⟨rfl, rfl, rfl⟩ := trodAll_nil r3
  obtain rfl : args = #[v0, v1, v2, v3] := by cases args; simp_all
  obtain ⟨rfl, rfl⟩ := trodVars_none hV
  obtain ⟨a0, rfl, rfl, rfl, w0⟩ := open_int Try.underlying48 (hval 0 48 v0 rfl rfl) h0
  obtain ⟨a1, rfl, rfl, rfl, w1⟩ := open_int Try.underlying5 (hval 1 5 v1 rfl rfl) h1
  obtain ⟨a2, rfl, rfl, rfl, w2⟩ := open_int Try.underlying31 (hval 2 31 v2 rfl rfl) h2
  obtain ⟨a3, rfl, rfl, rfl, w3⟩ := open_int Try.underlying5 (hval 3 5 v3 rfl rfl) h3
  clear hA0 hval0
  refine (walk a0 a1 a2 a3 W w0 w1 w2 w3).mono fun e W' ⟨he, bel⟩ => ?_
  subst he
  exact ⟨_, rfl, _, _, _, [], _, [], hW', trodAll_mk1 (shut_bool Try.underlying4 _), (trodAll_cons_mk (shut_int Try.underlying48 w0) (trodAll_cons_mk (shut_int Try.underlying5 w1) (trodAll_cons_mk (shut_int Try.underlying31 w2) (trodAll_cons_mk (shut_int Try.underlying5 w3) trodAll_mk0)))), rfl, bel.frame _, fun h => by cases h⟩

theorem over : Rows.cellsFillsRow.holds Try.pinned (OpenSpec.ofChange Rows.cellsFillsSpec) :=
  OpenClaim.holds_of_wide 6 Try.f6 rfl rfl rfl rfl rfl rfl rfl ⟨rfl, rfl, rfl, rfl, rfl⟩ rfl rfl rfl rfl rfl (by kernel_rfl) Try.func6 (by kernel_rfl)
    (of_decide_eq_true (by kernel_rfl)) (by unfold Func.isWrapper; first | (rw [if_pos (by decide +kernel)]; kernel_rfl) | (rw [if_neg (by decide +kernel)]; exact ⟨rfl, rfl⟩))
    (fun os started H enc _ => lifted os started H enc)

/-- The statement. -/
theorem proved : Rows.CellsFillsSaid := over
#print axioms proved
end Go.Proofs.Ytpcahaihlcaabaa.cellsFills
