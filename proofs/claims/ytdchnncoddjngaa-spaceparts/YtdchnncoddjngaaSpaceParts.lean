/-
  SpaceParts is true whatever the input: what is stored in two parts is as what is stored at once, what is loaded in two parts too, and what is stored at places that don't meet is so in whatever order; no conditions.
-/
import Derived.Test.YtdchnncoddjngaaRows
import Derived.WalkKit
import Derived.ProofKit
import Derived.OpenShut
import Derived.ShutString
import Derived.ChangeOld
import Derived.Below
import Derived.Test.YtdchnncoddjngaaLaw2
namespace Go.Proofs.Ytdchnncoddjngaa.spaceParts
open Go.ChangeShapes Go.WideShapes Go.ChangeAt Go.RowKit
set_option linter.unusedVariables false

theorem own : ownKnob Try.prog.godebug = none := by kernel_rfl

theorem parts_eq (f : Nat → UInt8) (n k far : Nat) (b c : List UInt8) (hk : k ≤ b.length) (hf : far = n + b.length + 7) :
    M.wr (M.wr (M.wr f far c) (n + k) (b.drop k)) n (b.take k) = M.wr (M.wr f n b) far c := by
  have ht : (b.take k).length = k := by simp; omega
  rw [M.wr_comm _ (n + k) (b.drop k) n (b.take k) (Or.inr (by omega))]
  have h1 := M.wr_append (M.wr f far c) n (b.take k) (b.drop k)
  rw [List.take_append_drop, ht] at h1
  rw [← h1]
  exact M.wr_comm _ _ _ _ _ (Or.inr (by omega))
theorem cut_from2 (A : Option Addr) (n cap i : Nat) (hi : i ≤ n) (hn : n ≤ cap) : ∃ A', (∀ W, (Instr.slice 32 (.slice A n cap) (some (.int .i64 (i : Int))) none none).run Try.prog W = .ok (.slice A' (n - i) (cap - i)) W) ∧
    ∀ (W : World) (xs : List Value), xs.length = n → Lies W A xs → Lies W A' (xs.drop i) := by
  refine ⟨if cap = i then A else A.map (·.add (i * 1)), fun W => by rw [run_slice_l W 32 A n cap und22 .i64 i (by omega) (by omega), elem22, size5]; simp only [Result.andThen_ok, sliced, Int.toNat_natCast], fun W xs hxn h hn => ?_⟩
  have hl : i < xs.length := by simp at hn; omega
  obtain ⟨ad, rfl, hc⟩ := h (by omega)
  refine ⟨ad.add i, by rw [if_neg (by omega)]; simp, fun j hj => ?_⟩
  rw [add_add, hc (i + j) (by simp at hj; omega)]
  simp
theorem cut_to2 (A : Option Addr) (n cap i : Nat) (hi : i ≤ cap) : ∃ A', (∀ W, (Instr.slice 32 (.slice A n cap) none (some (.int .i64 (i : Int))) none).run Try.prog W = .ok (.slice A' i cap) W) ∧
    ∀ (W : World) (xs : List Value), Lies W A xs → Lies W A' (xs.take i) := by
  refine ⟨if cap = 0 then A else A.map (·.add (0 * 1)), fun W => by rw [run_slice_h W 32 A n cap und22 .i64 i (by omega) (by omega), elem22, size5]; simp only [Result.andThen_ok, sliced, Int.toNat_natCast, Nat.sub_zero], fun W xs h hn => ?_⟩
  have hl : 0 < xs.length := by simp at hn; omega
  obtain ⟨ad, rfl, hc⟩ := h hl
  refine ⟨ad, by split <;> simp [add_zero'], fun j hj => ?_⟩
  rw [hc j (by simp at hj; omega)]
  simp

/-! The walk. -/
set_option maxRecDepth 20000 in
set_option maxHeartbeats 2000000 in
theorem walk (a0 : Option Addr) (len0 cap0 : Nat) (a1 : Int) (a2 : Option Addr) (len2 cap2 : Nat) (z2 : List Int) (a3 : Int) (a4 : Option Addr) (len4 cap4 : Nat) (z4 : List Int) (w : World) (w0 : IsActs w a0 len0) (w1 : (Lit.int .u16 a1).wf = true) (w2 : IsRow .u8 w a2 len2 cap2 z2) (w3 : (Lit.int .u8 a3).wf = true) (w4 : IsRow .u8 w a4 len4 cap4 z4) :
    Calls Try.prog 8 #[.slice a0 len0 cap0, .int .u16 a1, .slice a2 len2 cap2, .int .u8 a3, .slice a4 len4 cap4] w fun e w' => e = .returned (.bool true) ∧ Below w.heap.size w w' := by
  obtain ⟨hlen0, ls, hls, hacts⟩ := w0
  obtain ⟨n, hn, rfl⟩ := u16_nat w1
  have hbt := row_top w2
  obtain ⟨xs, hxs, hlies⟩ := row_u8 w2
  have hcap := row_u8c w2
  obtain ⟨q, hq, rfl⟩ := u8_nat w3
  have hct := row_top w4
  obtain ⟨ys, hys, hliey⟩ := row_u8 w4
  have hcay := row_u8c w4
  have HA := Lib.hid (show len0 = ls.length ∧ Acts w a0 ls from ⟨hls, hacts⟩)
  have HX := Lib.hid (show len2 = xs.length ∧ Lies w a2 (u8s xs) ∧ len2 ≤ cap2 from ⟨hxs, hlies, hcap⟩)
  have HY := Lib.hid (show len4 = ys.length ∧ Lies w a4 (u8s ys) ∧ len4 ≤ cap4 from ⟨hys, hliey, hcay⟩)
  clear w1 w2 w3 w4 hls hacts hxs hlies hcap hys hliey hcay
  go_enter Try.func8, Try.ntmps8
  go_wp2_with fail
  refine (awake_any _).mono ?_
  rintro e w1 ⟨rfl, b1⟩
  have B1 := Lib.hid b1
  clear b1
  go_wp2_with fail
  refine (few_any w1 a0 ls len0 cap0 HA.out.1 (HA.out.2.below B1.out) hlen0).mono ?_
  rintro e w' ⟨rfl, rfl⟩
  by_cases hf : fewB ls = true
  · have hl30 := fewB_len hf
    by_cases hb9 : 5000 < len2
    · have d9 : decide ((5000 : Int) < (len2 : Int)) = true := by simp; omega
      clear hb9
      go_wp2
      go_ret
      exact ⟨rfl, B1.out⟩
    · have d9 : decide ((5000 : Int) < (len2 : Int)) = false := by simp; omega
      by_cases hc9 : 5000 < len4
      · have e9 : decide ((5000 : Int) < (len4 : Int)) = true := by simp; omega
        clear hb9 hc9
        go_wp2
        go_ret
        exact ⟨rfl, B1.out⟩
      · have e9 : decide ((5000 : Int) < (len4 : Int)) = false := by simp; omega
        have hn2 : len2 ≤ 5000 := by omega
        have hn4 : len4 ≤ 5000 := by omega
        go_wp2_with fail
        refine (at_new (w0 := w) B1.out _ 40 (by decide)).mono ?_
        rintro e w2 ⟨s, O2, rfl, A2⟩
        have H2 := Lib.hid A2
        clear A2 d9 e9 hb9 hc9 hbt hct
        go_wp2_with fail
        refine (at_play HA.out.1 HA.out.2 (by have := HA.out.1; omega) H2.out (by omega)).mono ?_
        rintro e w3 ⟨rfl, f, T, O, hT, A3, _, _⟩
        have HT := Lib.hid hT
        have H3 := Lib.hid A3
        clear A3 hT H2
        go_wp2_with fail
        refine (at_clone H3.out).mono ?_
        rintro e w5 ⟨t, Oc, rfl, C5, S5, hoc, b5⟩
        have H5 := Lib.hid (show At w w5 s 40 T f O ∧ At w w5 t 40 0 f Oc ∧ ∀ b, Oc b → ¬ O b from ⟨S5, C5, fun b h1 h2 => by have := H3.out.sp.lt h2; have := hoc b h1; omega⟩)
        clear C5 S5 hoc b5 H3
        obtain ⟨k, hk⟩ : ∃ k : Nat, k = if len2 = 0 then 0 else q % len2 := ⟨_, rfl⟩
        have hk1 : k ≤ len2 := by
          rw [hk]
          split
          · omega
          · next h => exact Nat.le_of_lt (Nat.mod_lt _ (by omega))
        have HK := Lib.hid (show k ≤ len2 ∧ k = if len2 = 0 then 0 else q % len2 from ⟨hk1, hk⟩)
        have hk5 : k ≤ 5000 := by omega
        clear hk
        obtain ⟨far, hfar⟩ : ∃ far : Nat, (n : Int) + (len2 : Int) + 7 = (far : Int) := ⟨n + len2 + 7, by omega⟩
        obtain ⟨nk, hnk⟩ : ∃ nk : Nat, (n : Int) + (k : Int) = (nk : Int) := ⟨n + k, by omega⟩
        obtain ⟨m1, hm1⟩ : ∃ m1 : Nat, (len2 : Int) + (len4 : Int) + 7 = (m1 : Int) := ⟨len2 + len4 + 7, by omega⟩
        obtain ⟨d2, hd2⟩ : ∃ d2 : Nat, (len2 : Int) - (k : Int) = (d2 : Int) := ⟨len2 - k, by omega⟩
        obtain ⟨m3, hm3⟩ : ∃ m3 : Nat, (d2 : Int) + (len4 : Int) + 7 = (m3 : Int) := ⟨d2 + len4 + 7, by omega⟩
        have HF := Lib.hid (show far = n + len2 + 7 ∧ n + k = nk by constructor <;> omega)
        have HM := Lib.hid (show m1 = len2 + len4 + 7 ∧ m3 = len2 - k + len4 + 7 by constructor <;> omega)
        have fb : far ≤ 70600 := by omega
        have nb : nk ≤ 70600 := by omega
        have db : d2 ≤ 5000 := by omega
        go_upto_if 56 with fail
        go_cut [16] (fun s16 wx => s16 = .int .i64 (k : Int) ∧ wx = w5)
        case first =>
          by_cases h0 : len2 = 0
          · have hk0 : k = 0 := by have := HK.out.2; rw [if_pos h0] at this; exact this
            have i0 : ¬ ((0 : Int) < (len2 : Int)) := by omega
            have i0' : ¬ (0 < len2) := by omega
            have d0 : decide ((0 : Int) < (len2 : Int)) = false := by simp; omega
            clear h0
            go_wp2_with fail
            go_meet
            exact ⟨by rw [hk0]; rfl, rfl⟩
          · have i0 : (0 : Int) < (len2 : Int) := by omega
            have i0' : 0 < len2 := by omega
            have d0 : decide ((0 : Int) < (len2 : Int)) = true := by simp; omega
            have hk0 : k = q % len2 := by have := HK.out.2; rw [if_neg h0] at this; exact this
            have hrem : Int.tmod (q : Int) (len2 : Int) = (k : Int) := by rw [hk0]; rfl
            have hrem2 : (q : Int) % (len2 : Int) = (k : Int) := by rw [hk0]; rfl
            clear hk0
            go_wp2_with fail
            go_meet
            exact ⟨rfl, rfl⟩
        case rest =>
          obtain ⟨rfl, hw⟩ := hcut
          have hw := hw.symm
          subst hw
          go_wp2_with fail
          refine (at_store H5.out.1 n len2 cap2 a2 xs HX.out.1 (HX.out.2.1.below H5.out.1.bel) HX.out.2.2 (fun h0 ad e => H5.out.1.low (lies_low HX.out.2.1 h0 ad e)) (by omega) (by omega) (by have := HT.out; omega)).mono ?_
          rintro e w6 ⟨rfl, S6, k6⟩
          have t6 := H5.out.1.tl n len2 (by omega)
          have H6 := Lib.hid (show At w w6 s 40 (T + M.touched n len2) (M.wr f n xs) (Wid O w5 w6) ∧ At w w6 t 40 0 f Oc ∧ (∀ b, Oc b → ¬ Wid O w5 w6 b) ∧ M.touched n len2 ≤ 1048578 from ⟨S6, H5.out.2.1.other k6 H5.out.2.2 S6.bel, H5.out.2.1.wid_apart H5.out.2.2, t6⟩)
          clear S6 k6 t6
          go_wp2_with fail
          refine (at_store H6.out.1 far len4 cap4 a4 ys HY.out.1 (HY.out.2.1.below H6.out.1.bel) HY.out.2.2 (fun h0 ad e => H6.out.1.low (lies_low HY.out.2.1 h0 ad e)) (by omega) (by omega) (by have := HT.out; have := H6.out.2.2.2; omega)).mono ?_
          rintro e w7 ⟨rfl, S7, k7⟩
          have t7 := H6.out.1.tl far len4 (by omega)
          have H7 := Lib.hid (show At w w7 s 40 (T + M.touched n len2 + M.touched far len4) (M.wr (M.wr f n xs) far ys) (Wid (Wid O w5 w6) w6 w7) ∧ At w w7 t 40 0 f Oc ∧ (∀ b, Oc b → ¬ Wid (Wid O w5 w6) w6 w7 b) ∧ M.touched far len4 ≤ 1048578 from ⟨S7, H6.out.2.1.other k7 H6.out.2.2.1 S7.bel, H6.out.2.1.wid_apart H6.out.2.2.1, t7⟩)
          clear S7 k7 t7
          generalize hO7 : Wid (Wid O w5 w6) w6 w7 = O7 at *
          clear hO7
          go_wp2_with fail
          refine (at_store H7.out.2.1 far len4 cap4 a4 ys HY.out.1 (HY.out.2.1.below H7.out.1.bel) HY.out.2.2 (fun h0 ad e => H7.out.2.1.low (lies_low HY.out.2.1 h0 ad e)) (by omega) (by omega) (by omega)).mono ?_
          rintro e w8 ⟨rfl, C8, k8⟩
          have hd7 : ∀ b, O7 b → ¬ Oc b := fun b h1 h2 => H7.out.2.2.1 b h2 h1
          have H8 := Lib.hid (show At w w8 t 40 (0 + M.touched far len4) (M.wr f far ys) (Wid Oc w7 w8) ∧ At w w8 s 40 (T + M.touched n len2 + M.touched far len4) (M.wr (M.wr f n xs) far ys) O7 ∧ (∀ b, O7 b → ¬ Wid Oc w7 w8 b) from ⟨C8, H7.out.1.other k8 hd7 C8.bel, H7.out.1.wid_apart hd7⟩)
          clear C8 k8 hd7
          generalize hO8 : Wid Oc w7 w8 = O8 at *
          clear hO8
          obtain ⟨A1, r1, l1⟩ := cut_from2 a2 len2 cap2 k HK.out.1 HX.out.2.2
          have y1 := l1 w (u8s xs) (by rw [u8s_length]; exact HX.out.1.symm) HX.out.2.1
          rw [← u8s_drop] at y1
          have z1 : len2 - k ≤ cap2 - k := by have := HX.out.2.2; omega
          go_wp2_with fail
          refine (at_store H8.out.1 nk (len2 - k) (cap2 - k) A1 (xs.drop k) (by rw [List.length_drop, ← HX.out.1]) (y1.below H8.out.1.bel) z1 (fun h0 ad e => H8.out.1.low (lies_low y1 h0 ad e)) (by have := HK.out; omega) (by omega) (by have := H7.out.2.2.2; omega)).mono ?_
          rintro e w9 ⟨rfl, C9, k9⟩
          have t9 := H8.out.1.tl nk (len2 - k) (by have := HK.out; omega)
          have H9 := Lib.hid (show At w w9 t 40 (0 + M.touched far len4 + M.touched nk (len2 - k)) (M.wr (M.wr f far ys) nk (xs.drop k)) (Wid O8 w8 w9) ∧ At w w9 s 40 (T + M.touched n len2 + M.touched far len4) (M.wr (M.wr f n xs) far ys) O7 ∧ (∀ b, O7 b → ¬ Wid O8 w8 w9 b) ∧ M.touched nk (len2 - k) ≤ 1048578 from ⟨C9, H8.out.2.1.other k9 H8.out.2.2 C9.bel, H8.out.2.1.wid_apart H8.out.2.2, t9⟩)
          clear C9 k9 t9 r1 l1 y1 z1
          generalize hO9 : Wid O8 w8 w9 = O9 at *
          clear hO9
          obtain ⟨A2, r2, l2⟩ := cut_to2 a2 len2 cap2 k (Nat.le_trans HK.out.1 HX.out.2.2)
          have y2 := l2 w (u8s xs) HX.out.2.1
          rw [← u8s_take] at y2
          have z2 := Nat.le_trans HK.out.1 HX.out.2.2
          go_wp2_with fail
          refine (at_store H9.out.1 n k cap2 A2 (xs.take k) (by rw [List.length_take, ← HX.out.1]; have := HK.out; omega) (y2.below H9.out.1.bel) z2 (fun h0 ad e => H9.out.1.low (lies_low y2 h0 ad e)) (by have := HK.out; omega) (by have := HK.out; omega) (by have := H7.out.2.2.2; have := H9.out.2.2.2; omega)).mono ?_
          rintro e w10 ⟨rfl, C10, k10⟩
          have t10 := H9.out.1.tl n k (by have := HK.out; omega)
          have ee := parts_eq f n k far xs ys (by have := HK.out; have := HX.out.1; omega) (by have := HX.out.1; have := HF.out; omega)
          rw [HF.out.2] at ee
          rw [ee] at C10
          have H10 := Lib.hid (show At w w10 t 40 (0 + M.touched far len4 + M.touched nk (len2 - k) + M.touched n k) (M.wr (M.wr f n xs) far ys) (Wid O9 w9 w10) ∧ At w w10 s 40 (T + M.touched n len2 + M.touched far len4) (M.wr (M.wr f n xs) far ys) O7 ∧ (∀ b, O7 b → ¬ Wid O9 w9 w10 b) ∧ M.touched n k ≤ 1048578 from ⟨C10, H9.out.2.1.other k10 H9.out.2.2.1 C10.bel, H9.out.2.1.wid_apart H9.out.2.2.1, t10⟩)
          clear C10 k10 t10 ee r2 l2 y2 z2
          generalize hO10 : Wid O9 w9 w10 = O10 at *
          generalize hF : M.wr (M.wr f n xs) far ys = F at *
          clear hO10 hF
          go_wp2_with fail
          refine (at_load H10.out.2.1 n m1 (by have := HM.out; omega) (by have := HM.out; omega) (by have := HT.out; have := H6.out.2.2.2; have := H7.out.2.2.2; omega)).mono ?_
          rintro e w11 ⟨g11, rfl, S11, L11, k11, _, g11l⟩
          have hg11 : ¬ O10 g11 := fun e => by have := H10.out.1.sp.lt e; omega
          have H11 := Lib.hid (show At w w11 t 40 (0 + M.touched far len4 + M.touched nk (len2 - k) + M.touched n k) F O10 ∧ Loose w11 O10 g11 (M.rd F n m1) from ⟨H10.out.1.other k11 (fun b h1 h2 => H10.out.2.2.1 b h2 h1) S11.bel, ⟨L11.own, hg11, L11.lt⟩⟩)
          clear S11 L11 k11 hg11 g11l
          go_wp2_with fail
          refine (at_load H11.out.1 n k (by have := HK.out; omega) (by have := HK.out; omega) (by have := H7.out.2.2.2; have := H9.out.2.2.2; have := H10.out.2.2.2; omega)).mono ?_
          rintro e w12 ⟨g12, rfl, S12, L12, k12, _, _⟩
          have H12 := Lib.hid (show At w w12 t 40 (0 + M.touched far len4 + M.touched nk (len2 - k) + M.touched n k + M.touched n k) F O10 ∧ Loose w12 O10 g11 (M.rd F n m1) ∧ Loose w12 O10 g12 (M.rd F n k) from ⟨S12, H11.out.2.kept k12, L12⟩)
          clear S12 L12 k12
          go_wp2_with fail
          refine (at_load H12.out.1 nk m3 (by have := HM.out; have := HK.out; omega) (by have := HM.out; omega) (by have := H7.out.2.2.2; have := H9.out.2.2.2; have := H10.out.2.2.2; omega)).mono ?_
          rintro e w13 ⟨g13, rfl, S13, L13, k13, _, _⟩
          have q1 := (H12.out.2.1.kept k13).conv m1 m1 (M.rd_length _ _ _).symm
          have q2 := (H12.out.2.2.kept k13).conv k k (M.rd_length _ _ _).symm
          have q3 := L13.conv m3 m3 (M.rd_length _ _ _).symm
          have hcat : ({ data := (M.rd F n k).toArray } ++ { data := (M.rd F nk m3).toArray } : ByteArray) = { data := (M.rd F n m1).toArray } := by
            rw [ByteArray.mk_append_mk]
            have := M.rd_add F n k m3
            rw [show k + m3 = m1 by have := HM.out; have := HK.out; omega, HF.out.2] at this
            rw [this]
          have s1 : (M.rd F n k).length ≤ 5000 := by rw [M.rd_length]; have := HK.out; omega
          have s2 : (M.rd F nk m3).length ≤ 20000 := by rw [M.rd_length]; have := HM.out; omega
          have B13 := Lib.hid S13.bel
          generalize M.rd F n k = Y at *
          generalize M.rd F nk m3 = Z at *
          generalize M.rd F n m1 = X at *
          clear S13 L13 k13
          go_wp2
          go_ret
          exact ⟨rfl, B13.out⟩
  · have hf' : fewB ls = false := by simpa using hf
    clear hf
    go_wp2
    go_ret
    exact ⟨rfl, B1.out⟩

/-! The row's step. -/
set_option maxRecDepth 100000 in
theorem lifted (os : Os) (started : os.Started) (H : Type) (enc : TypeId × Value → H) :
    ReturnsInHanded {} Try.checked os 8 .any (Rows.spacePartsSpec.pre6 enc Try.prog Try.f8 Rows.spacePartsRow.domain false) (Rows.spacePartsSpec.post enc Try.prog Try.f8 false true false false) := by
  refine returnsInHanded_of_change (C := Try.checked) own started (by kernel_rfl) Try.func8
    (ChangeSpec.witness6 (enc := enc) (C := Try.checked) false ⟨#[], #[.slice none 0 0, .int .u16 0, .slice none 0 0, .int .u8 0, .slice none 0 0], []⟩ 8 (by kernel_rfl) (by kernel_rfl) (by kernel_rfl) (by kernel_rfl)) ?_
  intro W base args ds gs before hval0 hW hcnd _
  have hval : ∀ (j : Nat) t v, Try.f8.params[j]? = some t → args[j]? = some v → Value.okWide Try.prog W .any base t v := hval0
  have hW' := hW
  obtain ⟨p, q, hA0, hV, rfl, hfz, hnd⟩ := hW
  have hA : DataW.TrodAll enc Try.prog W 0 (fun _ => true) true Try.f8.params.toList args.toList ds p := hA0
  rw [Try.params8] at hA hval
  obtain ⟨v0, vs0, d0, ds0, p0, q0, hargs, rfl, rfl, h0, r0⟩ := trodAll_cons hA
  obtain ⟨v1, vs1, d1, ds1, p1, q1, rfl, rfl, rfl, h1, r1⟩ := trodAll_cons r0
  obtain ⟨v2, vs2, d2, ds2, p2, q2, rfl, rfl, rfl, h2, r2⟩ := trodAll_cons r1
  obtain ⟨v3, vs3, d3, ds3, p3, q3, rfl, rfl, rfl, h3, r3⟩ := trodAll_cons r2
  obtain ⟨v4, vs4, d4, ds4, p4, q4, rfl, rfl, rfl, h4, r4⟩ := trodAll_cons r3
  obtain ⟨rfl, rfl, rfl⟩ := trodAll_nil r4
  obtain rfl : args = #[v0, v1, v2, v3, v4] := by cases args; simp_all
  obtain ⟨rfl, rfl⟩ := trodVars_none hV
  obtain ⟨a0, len0, cap0, rfl⟩ := okWide_slice Try.underlying22 (hval 0 22 v0 rfl rfl)
  have k0 := h0
  have lt0 : ∀ x ∈ p0, x.block < W.heap.size := by obtain ⟨m, hm⟩ := k0; exact DataW.trod_lt m _ _ _ hm
  have w0 : IsActs W a0 len0 := by
    obtain ⟨fuel, hf⟩ := h0
    obtain ⟨A, l, c, hcs, hw⟩ := acts_open hf
    simp [Value.cells] at hcs
    obtain ⟨rfl, rfl, rfl⟩ := hcs
    exact hw
  obtain ⟨a1, rfl, rfl, rfl, w1⟩ := open_int Try.underlying55 (hval 1 55 v1 rfl rfl) h1
  obtain ⟨a2, len2, cap2, rfl⟩ := okWide_slice Try.underlying32 (hval 2 32 v2 rfl rfl)
  have k2 := h2
  have lt2 : ∀ x ∈ p2, x.block < W.heap.size := by obtain ⟨m, hm⟩ := k2; exact DataW.trod_lt m _ _ _ hm
  obtain ⟨z2, w2⟩ : ∃ zs, IsRow .u8 W a2 len2 cap2 zs := by
    obtain ⟨fuel, hf⟩ := h2
    rcases open_ints Try.underlying32 Try.underlying5 (by kernel_rfl) hf with ⟨hcs, _⟩ | ⟨x, l, c, zs, hcs, _, hl, hm, hz, _, hcell, hwz⟩
    · simp [Value.cells] at hcs
      obtain ⟨rfl, rfl, rfl⟩ := hcs
      exact ⟨[], .inl ⟨rfl, rfl, rfl, rfl⟩⟩
    · simp [Value.cells] at hcs
      obtain ⟨rfl, rfl, rfl⟩ := hcs
      exact ⟨zs, .inr ⟨_, rfl, hl, hm, by simpa using hz, hcell, hwz⟩⟩
  obtain ⟨a3, rfl, rfl, rfl, w3⟩ := open_int Try.underlying5 (hval 3 5 v3 rfl rfl) h3
  obtain ⟨a4, len4, cap4, rfl⟩ := okWide_slice Try.underlying32 (hval 4 32 v4 rfl rfl)
  have k4 := h4
  have lt4 : ∀ x ∈ p4, x.block < W.heap.size := by obtain ⟨m, hm⟩ := k4; exact DataW.trod_lt m _ _ _ hm
  obtain ⟨z4, w4⟩ : ∃ zs, IsRow .u8 W a4 len4 cap4 zs := by
    obtain ⟨fuel, hf⟩ := h4
    rcases open_ints Try.underlying32 Try.underlying5 (by kernel_rfl) hf with ⟨hcs, _⟩ | ⟨x, l, c, zs, hcs, _, hl, hm, hz, _, hcell, hwz⟩
    · simp [Value.cells] at hcs
      obtain ⟨rfl, rfl, rfl⟩ := hcs
      exact ⟨[], .inl ⟨rfl, rfl, rfl, rfl⟩⟩
    · simp [Value.cells] at hcs
      obtain ⟨rfl, rfl, rfl⟩ := hcs
      exact ⟨zs, .inr ⟨_, rfl, hl, hm, by simpa using hz, hcell, hwz⟩⟩
  clear hA0 hval0
  refine (walk a0 len0 cap0 a1 a2 len2 cap2 z2 a3 a4 len4 cap4 z4 W w0 w1 w2 w3 w4).mono fun e W' ⟨he, bel⟩ => ?_
  subst he
  exact ⟨_, rfl, _, _, _, [], _, [], hW', trodAll_mk1 (shut_bool Try.underlying4 _), (trodAll_cons_mk (Below.trod laidOut (by kernel_rfl) (of_decide_eq_true (by kernel_rfl)) k0 bel lt0) (trodAll_cons_mk (shut_int Try.underlying55 w1) (trodAll_cons_mk (Below.trod laidOut (by kernel_rfl) (of_decide_eq_true (by kernel_rfl)) k2 bel lt2) (trodAll_cons_mk (shut_int Try.underlying5 w3) (trodAll_cons_mk (Below.trod laidOut (by kernel_rfl) (of_decide_eq_true (by kernel_rfl)) k4 bel lt4) trodAll_mk0))))), rfl, bel.frame _, fun h => by cases h⟩

theorem over : Rows.spacePartsRow.holds Try.pinned (OpenSpec.ofChange Rows.spacePartsSpec) :=
  OpenClaim.holds_of_wide 8 Try.f8 rfl rfl rfl rfl rfl rfl rfl ⟨rfl, rfl, rfl, rfl, rfl⟩ rfl rfl rfl rfl rfl (by kernel_rfl) Try.func8 (by kernel_rfl)
    (of_decide_eq_true (by kernel_rfl)) (by unfold Func.isWrapper; first | (rw [if_pos (by decide +kernel)]; kernel_rfl) | (rw [if_neg (by decide +kernel)]; exact ⟨rfl, rfl⟩))
    (fun os started H enc _ => lifted os started H enc)

/-- The statement. -/
theorem proved : Rows.SpacePartsSaid := over
#print axioms proved
end Go.Proofs.Ytdchnncoddjngaa.spaceParts
