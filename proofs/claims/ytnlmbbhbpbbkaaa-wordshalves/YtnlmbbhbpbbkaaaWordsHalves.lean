/-
  Proved: for every input the statement WordsHalves returns true, and its arguments read as before. No condition beyond those of the statement.
-/
import Derived.Test.YtnlmbbhbpbbkaaaRows
import Derived.WalkKit
import Derived.ProofKit
import Derived.OpenShut
import Derived.ShutString
import Derived.ChangeOld
import Derived.Below
import Derived.Test.YtnlmbbhbpbbkaaaEx
namespace Go.Proofs.Ytnlmbbhbpbbkaaa.wordsHalves
open Go.ChangeShapes Go.WideShapes Go.ChangeAt Go.RowKit
open Go.ChangeMaps (open_string shut_string)
set_option linter.unusedVariables false

theorem own : ownKnob Try.prog.godebug = none := by kernel_rfl
theorem laidOut : laidOutB Try.prog = true := by kernel_rfl

theorem put_get (l : List UInt8) (a k n i : Nat) (h : a + k ≤ l.length) (hi : i < (M.put l a k n).length) :
    (M.put l a k n)[i] = if hh : a ≤ i ∧ i < a + k then UInt8.ofNat (n / 256 ^ (i - a)) else l[i]'(by rw [M.put_length l a k n h] at hi; exact hi) := by
  have hi' : i < l.length := by rw [M.put_length l a k n h] at hi; exact hi
  have ht : (l.take a).length = a := by simp; omega
  simp only [M.put]
  by_cases h1 : i < a
  · rw [dif_neg (by omega), List.getElem_append_left (by omega)]
    simp
  · rw [List.getElem_append_right (by omega)]
    simp only [ht]
    by_cases h2 : i < a + k
    · rw [dif_pos ⟨by omega, h2⟩, List.getElem_append_left (by rw [M.enc_length]; omega), M.enc_get]
    · rw [dif_neg (by omega), List.getElem_append_right (by rw [M.enc_length]; omega)]
      simp only [M.enc_length, List.getElem_drop]
      congr 1
      omega
theorem put_comm (l : List UInt8) (a b k n m : Nat) (h : a + k ≤ b) (hb : b + k ≤ l.length) : M.put (M.put l b k m) a k n = M.put (M.put l a k n) b k m := by
  have e1 := M.put_length l a k n (by omega)
  have e2 := M.put_length l b k m (by omega)
  apply List.ext_getElem
  · rw [M.put_length _ _ _ _ (by omega), e2, M.put_length _ _ _ _ (by omega), e1]
  · intro i h1 h2
    rw [put_get _ _ _ _ _ (by omega) h1, put_get _ _ _ _ _ (by omega) h2]
    by_cases c1 : a ≤ i ∧ i < a + k
    · rw [dif_pos c1, dif_neg (by omega), put_get _ _ _ _ _ (by omega), dif_pos c1]
    · rw [dif_neg c1, put_get _ _ _ _ _ (by omega)]
      by_cases c2 : b ≤ i ∧ i < b + k
      · rw [dif_pos c2, dif_pos c2]
      · rw [dif_neg c2, dif_neg c2, put_get _ _ _ _ _ (by omega), dif_neg c1]
theorem seg_half (l : List UInt8) (h : Nat) (hl : h + h ≤ l.length) : M.num (M.seg l 0 (h + h)) = M.num (M.seg l 0 h) + 256 ^ h * M.num (M.seg l h h) := by
  have e : M.seg l 0 (h + h) = M.seg l 0 h ++ M.seg l h h := by
    simp only [M.seg, List.drop_zero]
    rw [List.take_add]
  rw [e, M.num_append, M.seg_length l 0 h (by omega)]
theorem half_eq (X low high p : Nat) (P : Int) (hP : P = p) (h : X = low + p * high) (hX : X < 18446744073709551616) :
    ((X : Int) == IntKind.u64.wrap ((low : Int) + IntKind.u64.wrap ((high : Int) * P))) = true := by
  subst hP
  have e : (high : Int) * (p : Int) = ((p * high : Nat) : Int) := by rw [Nat.mul_comm]; simp
  rw [e, wrapU, wrapU, beq_iff_eq]
  generalize p * high = q at *
  omega
theorem get_nat (A : Option Addr) (z c : Nat) (l : List UInt8) (x y : Int) (a k : Nat) (ez : z = l.length) (ex : x = a) (ey : y = k) (hk : k = 1 ∨ k = 2 ∨ k = 4 ∨ k = 8) (hz : l.length ≤ 140737488355328) (h : a + k ≤ l.length) (w : World) (hl : Lies w A (u8s l)) :
    Calls Try.prog 10 #[.slice A z c, .int .i64 x, .int .i64 y] w fun e w' => e = .returned (.tuple #[.int .u64 (M.num (M.seg l a k) : Nat), .bool true]) ∧ w = w' := by
  subst ez ex ey
  exact get_yes A l c a k hk hz h w hl

/-! The walk. -/
set_option maxHeartbeats 1600000 in
theorem walk (a0 : Option Addr) (len0 cap0 : Nat) (z0 : List Int) (a1 : Int) (a2 : Int) (a3 : Int) (w : World) (w0 : IsRow .u8 w a0 len0 cap0 z0) (w1 : (Lit.int .u8 a1).wf = true) (w2 : (Lit.int .u64 a2).wf = true) (w3 : (Lit.int .u64 a3).wf = true) :
    Calls Try.prog 8 #[.slice a0 len0 cap0, .int .u8 a1, .int .u64 a2, .int .u64 a3] w fun e w' => e = .returned (.bool true) ∧ Below w.heap.size w w' := by
  obtain ⟨l, rfl, hl⟩ := row_u8 w0
  obtain ⟨kk, hkk, rfl⟩ := u8_nat w1
  obtain ⟨n, hn, rfl⟩ := u64_nat w2
  obtain ⟨m, hm2, rfl⟩ := u64_nat w3
  clear w0 w1 w2 w3
  by_cases h200 : 24 ≤ l.length ∧ l.length ≤ 200
  · obtain ⟨h24, h200⟩ := h200
    have hz : l.length ≤ 140737488355328 := by omega
    have HL := Lib.hid hl; clear hl
    rcases (show kk % 3 = 0 ∨ kk % 3 = 1 ∨ kk % 3 = 2 by omega) with hr | hr | hr
    · have hm : (kk : Int) % 3 = 0 := by omega
      have HM := Lib.hid hr; clear hr
      go_enter Try.func8, Try.ntmps8
      go_wp2_with fail
      refine (awake_any _).mono ?_
      rintro e w1 ⟨rfl, b1⟩
      have hcv := conv_str w1 a0 l cap0 (HL.out.below b1)
      obtain ⟨c2, w2, hbs, ho2, b2, s2⟩ := to_bytes w1 l
      have hcv2 := conv_str w2 a0 l cap0 ((HL.out.below b1).below b2)
      obtain ⟨c3, w3, hbs3, ho3, b3, s3⟩ := to_bytes w2 l
      have ho23 := ho2.below s2 b3
      have B3 := Lib.hid (b1.trans ((b2.mono b1.size).trans (b3.mono (Nat.le_trans b1.size b2.size)))); clear b2 b3
      have hs1 := b1.size
      clear b1
      go_wp2_with fail
      clear hcv hcv2 hbs hbs3
      refine (put_at _ _ _ l _ _ _ 0 2 n rfl rfl rfl rfl (by omega) hn hz (by omega) _ ho23).mono ?_
      rintro e w4 ⟨rfl, ho4, g4⟩
      have hp4 := M.put_length l 0 2 n (by omega)
      have HP4 := Lib.hid hp4; clear hp4
      have hd4 := ho3.grown s3 (Nat.ne_of_gt s2) g4
      have hs4 := g4.size
      have B4 := Lib.hid (B3.out.trans (only_below g4 hs1 (by omega))); clear B3 g4
      go_wp2_with fail
      refine (put_at _ _ _ (M.put l 0 2 n) _ _ _ 8 2 m HP4.out.symm rfl rfl rfl (by omega) hm2 (by rw [HP4.out]; exact hz) (by rw [HP4.out]; omega) _ ho4).mono ?_
      rintro e w5 ⟨rfl, ho5, g5⟩
      have hp5 := M.put_length (M.put l 0 2 n) 8 2 m (by rw [HP4.out]; omega)
      rw [HP4.out] at hp5
      have HP5 := Lib.hid hp5; clear hp5
      have hd5 := hd4.grown (by omega) (Nat.ne_of_gt s2) g5
      have hs5 := g5.size
      have B5 := Lib.hid (B4.out.trans (only_below g5 hs1 (by omega))); clear B4 g5
      go_wp2_with fail
      refine (put_at _ _ _ l _ _ _ 8 2 m rfl rfl rfl rfl (by omega) hm2 hz (by omega) _ hd5).mono ?_
      rintro e w6 ⟨rfl, hd6, g6⟩
      have ho6 := ho5.grown (by omega) (Nat.ne_of_lt s2) g6
      have hp6 := M.put_length l 8 2 m (by omega)
      have HP6 := Lib.hid hp6; clear hp6
      have hs6 := g6.size
      have B6 := Lib.hid (B5.out.trans (only_below g6 (by omega) (by omega))); clear B5 g6
      go_wp2_with fail
      refine (put_at _ _ _ (M.put l 8 2 m) _ _ _ 0 2 n HP6.out.symm rfl rfl rfl (by omega) hn (by rw [HP6.out]; exact hz) (by rw [HP6.out]; omega) _ hd6).mono ?_
      rintro e w7 ⟨rfl, hd7, g7⟩
      rw [put_comm l 0 8 2 n m (by omega) (by omega)] at hd7
      have ho7 := ho6.grown (by omega) (Nat.ne_of_lt s2) g7
      have hs7 := g7.size
      have B7 := Lib.hid (B6.out.trans (only_below g7 (by omega) (by omega))); clear B6 g7
      clear ho2 ho23 ho3 ho4 ho5 ho6 hd4 hd5 hd6
      have hsh := seg_half (M.put (M.put l 0 2 n) 8 2 m) 1 (by rw [HP5.out]; omega)
      have hx1 := M.num_seg_lt (M.put (M.put l 0 2 n) 8 2 m) 0 (1 + 1) (by rw [HP5.out]; omega)
      have hx2 := M.num_seg_lt (M.put (M.put l 0 2 n) 8 2 m) 0 1 (by rw [HP5.out]; omega)
      have hx3 := M.num_seg_lt (M.put (M.put l 0 2 n) 8 2 m) 1 1 (by rw [HP5.out]; omega)
      have hcv7 := conv_at w7 _ l.length (M.put (M.put l 0 2 n) 8 2 m) c2 HP5.out.symm ho7.lies
      have hcv8 := conv_at w7 _ l.length (M.put (M.put l 0 2 n) 8 2 m) c3 HP5.out.symm hd7.lies
      generalize M.put (M.put l 0 2 n) 8 2 m = q at *
      have HSH := Lib.hid hsh; clear hsh
      have HX1 := Lib.hid hx1; clear hx1
      have HX2 := Lib.hid hx2; clear hx2
      have HX3 := Lib.hid hx3; clear hx3
      go_wp2_with fail
      refine (get_nat _ _ _ q _ _ 0 2 HP5.out.symm rfl rfl (by omega) (by rw [HP5.out]; exact hz) (by rw [HP5.out]; omega) _ ho7.lies).mono ?_
      rintro e w' ⟨rfl, rfl⟩
      go_wp2_with fail
      refine (get_nat _ _ _ q _ _ 0 1 HP5.out.symm rfl rfl (by omega) (by rw [HP5.out]; exact hz) (by rw [HP5.out]; omega) _ ho7.lies).mono ?_
      rintro e w' ⟨rfl, rfl⟩
      go_wp2_with fail
      refine (get_nat _ _ _ q _ _ 1 1 HP5.out.symm rfl rfl (by omega) (by rw [HP5.out]; exact hz) (by rw [HP5.out]; omega) _ ho7.lies).mono ?_
      rintro e w' ⟨rfl, rfl⟩
      have H9 := Lib.hid ho7; clear ho7
      have H10 := Lib.hid hd7; clear hd7
      go_wp2
      go_ret
      exact ⟨retB (half_eq _ _ _ (256 ^ 1) 256 (by decide) HSH.out (Nat.lt_of_lt_of_le HX1.out (by decide))), B7.out⟩
    · have hm : (kk : Int) % 3 = 1 := by omega
      have HM := Lib.hid hr; clear hr
      go_enter Try.func8, Try.ntmps8
      go_wp2_with fail
      refine (awake_any _).mono ?_
      rintro e w1 ⟨rfl, b1⟩
      have hcv := conv_str w1 a0 l cap0 (HL.out.below b1)
      obtain ⟨c2, w2, hbs, ho2, b2, s2⟩ := to_bytes w1 l
      have hcv2 := conv_str w2 a0 l cap0 ((HL.out.below b1).below b2)
      obtain ⟨c3, w3, hbs3, ho3, b3, s3⟩ := to_bytes w2 l
      have ho23 := ho2.below s2 b3
      have B3 := Lib.hid (b1.trans ((b2.mono b1.size).trans (b3.mono (Nat.le_trans b1.size b2.size)))); clear b2 b3
      have hs1 := b1.size
      clear b1
      go_wp2_with fail
      clear hcv hcv2 hbs hbs3
      refine (put_at _ _ _ l _ _ _ 0 4 n rfl rfl rfl rfl (by omega) hn hz (by omega) _ ho23).mono ?_
      rintro e w4 ⟨rfl, ho4, g4⟩
      have hp4 := M.put_length l 0 4 n (by omega)
      have HP4 := Lib.hid hp4; clear hp4
      have hd4 := ho3.grown s3 (Nat.ne_of_gt s2) g4
      have hs4 := g4.size
      have B4 := Lib.hid (B3.out.trans (only_below g4 hs1 (by omega))); clear B3 g4
      go_wp2_with fail
      refine (put_at _ _ _ (M.put l 0 4 n) _ _ _ 8 4 m HP4.out.symm rfl rfl rfl (by omega) hm2 (by rw [HP4.out]; exact hz) (by rw [HP4.out]; omega) _ ho4).mono ?_
      rintro e w5 ⟨rfl, ho5, g5⟩
      have hp5 := M.put_length (M.put l 0 4 n) 8 4 m (by rw [HP4.out]; omega)
      rw [HP4.out] at hp5
      have HP5 := Lib.hid hp5; clear hp5
      have hd5 := hd4.grown (by omega) (Nat.ne_of_gt s2) g5
      have hs5 := g5.size
      have B5 := Lib.hid (B4.out.trans (only_below g5 hs1 (by omega))); clear B4 g5
      go_wp2_with fail
      refine (put_at _ _ _ l _ _ _ 8 4 m rfl rfl rfl rfl (by omega) hm2 hz (by omega) _ hd5).mono ?_
      rintro e w6 ⟨rfl, hd6, g6⟩
      have ho6 := ho5.grown (by omega) (Nat.ne_of_lt s2) g6
      have hp6 := M.put_length l 8 4 m (by omega)
      have HP6 := Lib.hid hp6; clear hp6
      have hs6 := g6.size
      have B6 := Lib.hid (B5.out.trans (only_below g6 (by omega) (by omega))); clear B5 g6
      go_wp2_with fail
      refine (put_at _ _ _ (M.put l 8 4 m) _ _ _ 0 4 n HP6.out.symm rfl rfl rfl (by omega) hn (by rw [HP6.out]; exact hz) (by rw [HP6.out]; omega) _ hd6).mono ?_
      rintro e w7 ⟨rfl, hd7, g7⟩
      rw [put_comm l 0 8 4 n m (by omega) (by omega)] at hd7
      have ho7 := ho6.grown (by omega) (Nat.ne_of_lt s2) g7
      have hs7 := g7.size
      have B7 := Lib.hid (B6.out.trans (only_below g7 (by omega) (by omega))); clear B6 g7
      clear ho2 ho23 ho3 ho4 ho5 ho6 hd4 hd5 hd6
      have hsh := seg_half (M.put (M.put l 0 4 n) 8 4 m) 2 (by rw [HP5.out]; omega)
      have hx1 := M.num_seg_lt (M.put (M.put l 0 4 n) 8 4 m) 0 (2 + 2) (by rw [HP5.out]; omega)
      have hx2 := M.num_seg_lt (M.put (M.put l 0 4 n) 8 4 m) 0 2 (by rw [HP5.out]; omega)
      have hx3 := M.num_seg_lt (M.put (M.put l 0 4 n) 8 4 m) 2 2 (by rw [HP5.out]; omega)
      have hcv7 := conv_at w7 _ l.length (M.put (M.put l 0 4 n) 8 4 m) c2 HP5.out.symm ho7.lies
      have hcv8 := conv_at w7 _ l.length (M.put (M.put l 0 4 n) 8 4 m) c3 HP5.out.symm hd7.lies
      generalize M.put (M.put l 0 4 n) 8 4 m = q at *
      have HSH := Lib.hid hsh; clear hsh
      have HX1 := Lib.hid hx1; clear hx1
      have HX2 := Lib.hid hx2; clear hx2
      have HX3 := Lib.hid hx3; clear hx3
      go_wp2_with fail
      refine (get_nat _ _ _ q _ _ 0 4 HP5.out.symm rfl rfl (by omega) (by rw [HP5.out]; exact hz) (by rw [HP5.out]; omega) _ ho7.lies).mono ?_
      rintro e w' ⟨rfl, rfl⟩
      go_wp2_with fail
      refine (get_nat _ _ _ q _ _ 0 2 HP5.out.symm rfl rfl (by omega) (by rw [HP5.out]; exact hz) (by rw [HP5.out]; omega) _ ho7.lies).mono ?_
      rintro e w' ⟨rfl, rfl⟩
      go_wp2_with fail
      refine (get_nat _ _ _ q _ _ 2 2 HP5.out.symm rfl rfl (by omega) (by rw [HP5.out]; exact hz) (by rw [HP5.out]; omega) _ ho7.lies).mono ?_
      rintro e w' ⟨rfl, rfl⟩
      have H9 := Lib.hid ho7; clear ho7
      have H10 := Lib.hid hd7; clear hd7
      go_wp2
      go_ret
      exact ⟨retB (half_eq _ _ _ (256 ^ 2) 65536 (by decide) HSH.out (Nat.lt_of_lt_of_le HX1.out (by decide))), B7.out⟩
    · have hm : (kk : Int) % 3 = 2 := by omega
      have HM := Lib.hid hr; clear hr
      go_enter Try.func8, Try.ntmps8
      go_wp2_with fail
      refine (awake_any _).mono ?_
      rintro e w1 ⟨rfl, b1⟩
      have hcv := conv_str w1 a0 l cap0 (HL.out.below b1)
      obtain ⟨c2, w2, hbs, ho2, b2, s2⟩ := to_bytes w1 l
      have hcv2 := conv_str w2 a0 l cap0 ((HL.out.below b1).below b2)
      obtain ⟨c3, w3, hbs3, ho3, b3, s3⟩ := to_bytes w2 l
      have ho23 := ho2.below s2 b3
      have B3 := Lib.hid (b1.trans ((b2.mono b1.size).trans (b3.mono (Nat.le_trans b1.size b2.size)))); clear b2 b3
      have hs1 := b1.size
      clear b1
      go_wp2_with fail
      clear hcv hcv2 hbs hbs3
      refine (put_at _ _ _ l _ _ _ 0 8 n rfl rfl rfl rfl (by omega) hn hz (by omega) _ ho23).mono ?_
      rintro e w4 ⟨rfl, ho4, g4⟩
      have hp4 := M.put_length l 0 8 n (by omega)
      have HP4 := Lib.hid hp4; clear hp4
      have hd4 := ho3.grown s3 (Nat.ne_of_gt s2) g4
      have hs4 := g4.size
      have B4 := Lib.hid (B3.out.trans (only_below g4 hs1 (by omega))); clear B3 g4
      go_wp2_with fail
      refine (put_at _ _ _ (M.put l 0 8 n) _ _ _ 8 8 m HP4.out.symm rfl rfl rfl (by omega) hm2 (by rw [HP4.out]; exact hz) (by rw [HP4.out]; omega) _ ho4).mono ?_
      rintro e w5 ⟨rfl, ho5, g5⟩
      have hp5 := M.put_length (M.put l 0 8 n) 8 8 m (by rw [HP4.out]; omega)
      rw [HP4.out] at hp5
      have HP5 := Lib.hid hp5; clear hp5
      have hd5 := hd4.grown (by omega) (Nat.ne_of_gt s2) g5
      have hs5 := g5.size
      have B5 := Lib.hid (B4.out.trans (only_below g5 hs1 (by omega))); clear B4 g5
      go_wp2_with fail
      refine (put_at _ _ _ l _ _ _ 8 8 m rfl rfl rfl rfl (by omega) hm2 hz (by omega) _ hd5).mono ?_
      rintro e w6 ⟨rfl, hd6, g6⟩
      have ho6 := ho5.grown (by omega) (Nat.ne_of_lt s2) g6
      have hp6 := M.put_length l 8 8 m (by omega)
      have HP6 := Lib.hid hp6; clear hp6
      have hs6 := g6.size
      have B6 := Lib.hid (B5.out.trans (only_below g6 (by omega) (by omega))); clear B5 g6
      go_wp2_with fail
      refine (put_at _ _ _ (M.put l 8 8 m) _ _ _ 0 8 n HP6.out.symm rfl rfl rfl (by omega) hn (by rw [HP6.out]; exact hz) (by rw [HP6.out]; omega) _ hd6).mono ?_
      rintro e w7 ⟨rfl, hd7, g7⟩
      rw [put_comm l 0 8 8 n m (by omega) (by omega)] at hd7
      have ho7 := ho6.grown (by omega) (Nat.ne_of_lt s2) g7
      have hs7 := g7.size
      have B7 := Lib.hid (B6.out.trans (only_below g7 (by omega) (by omega))); clear B6 g7
      clear ho2 ho23 ho3 ho4 ho5 ho6 hd4 hd5 hd6
      have hsh := seg_half (M.put (M.put l 0 8 n) 8 8 m) 4 (by rw [HP5.out]; omega)
      have hx1 := M.num_seg_lt (M.put (M.put l 0 8 n) 8 8 m) 0 (4 + 4) (by rw [HP5.out]; omega)
      have hx2 := M.num_seg_lt (M.put (M.put l 0 8 n) 8 8 m) 0 4 (by rw [HP5.out]; omega)
      have hx3 := M.num_seg_lt (M.put (M.put l 0 8 n) 8 8 m) 4 4 (by rw [HP5.out]; omega)
      have hcv7 := conv_at w7 _ l.length (M.put (M.put l 0 8 n) 8 8 m) c2 HP5.out.symm ho7.lies
      have hcv8 := conv_at w7 _ l.length (M.put (M.put l 0 8 n) 8 8 m) c3 HP5.out.symm hd7.lies
      generalize M.put (M.put l 0 8 n) 8 8 m = q at *
      have HSH := Lib.hid hsh; clear hsh
      have HX1 := Lib.hid hx1; clear hx1
      have HX2 := Lib.hid hx2; clear hx2
      have HX3 := Lib.hid hx3; clear hx3
      go_wp2_with fail
      refine (get_nat _ _ _ q _ _ 0 8 HP5.out.symm rfl rfl (by omega) (by rw [HP5.out]; exact hz) (by rw [HP5.out]; omega) _ ho7.lies).mono ?_
      rintro e w' ⟨rfl, rfl⟩
      go_wp2_with fail
      refine (get_nat _ _ _ q _ _ 0 4 HP5.out.symm rfl rfl (by omega) (by rw [HP5.out]; exact hz) (by rw [HP5.out]; omega) _ ho7.lies).mono ?_
      rintro e w' ⟨rfl, rfl⟩
      go_wp2_with fail
      refine (get_nat _ _ _ q _ _ 4 4 HP5.out.symm rfl rfl (by omega) (by rw [HP5.out]; exact hz) (by rw [HP5.out]; omega) _ ho7.lies).mono ?_
      rintro e w' ⟨rfl, rfl⟩
      have H9 := Lib.hid ho7; clear ho7
      have H10 := Lib.hid hd7; clear hd7
      go_wp2
      go_ret
      exact ⟨retB (half_eq _ _ _ (256 ^ 4) 4294967296 (by decide) HSH.out (Nat.lt_of_lt_of_le HX1.out (by decide))), B7.out⟩
  · by_cases h24 : l.length < 24
    · go_enter Try.func8, Try.ntmps8
      go_wp2_with fail
      refine (awake_any _).mono ?_
      rintro e w1 ⟨rfl, b1⟩
      go_wp2
      go_ret
      exact ⟨rfl, b1⟩
    · have h201 : 200 < l.length := by omega
      clear h200
      go_enter Try.func8, Try.ntmps8
      go_wp2_with fail
      refine (awake_any _).mono ?_
      rintro e w1 ⟨rfl, b1⟩
      go_wp2
      go_ret
      exact ⟨rfl, b1⟩

/-! The row's step. -/
set_option maxRecDepth 100000 in
theorem lifted (os : Os) (started : os.Started) (H : Type) (enc : TypeId × Value → H) :
    ReturnsInHanded {} Try.checked os 8 .any (Rows.wordsHalvesSpec.pre6 enc Try.prog Try.f8 Rows.wordsHalvesRow.domain false) (Rows.wordsHalvesSpec.post enc Try.prog Try.f8 false true false false) := by
  refine returnsInHanded_of_change (C := Try.checked) own started (by kernel_rfl) Try.func8
    (ChangeSpec.witness6 (enc := enc) (C := Try.checked) false ⟨#[], #[.slice none 0 0, .int .u8 0, .int .u64 0, .int .u64 0], []⟩ 8 (by kernel_rfl) (by kernel_rfl) (by kernel_rfl) (by kernel_rfl)) ?_
  intro W base args ds gs before hval0 hW hcnd _
  have hval : ∀ (j : Nat) t v, Try.f8.params[j]? = some t → args[j]? = some v → Value.okWide Try.prog W .any base t v := hval0
  have hW' := hW
  obtain ⟨p, q, hA0, hV, rfl, hfz, hnd⟩ := hW
  have hA : DataW.TrodAll enc Try.prog W 0 (fun _ => true) true Try.f8.params.toList args.toList ds p := hA0
  rw [Try.params8] at hA hval
  obtain ⟨v0, vs0, d0, ds0, p0, q0, hargs, rfl, rfl, h0, r0⟩ := trodAll_cons hA
  obtain ⟨v1, vs1, d1, ds1, p1, q1, rfl, rfl, rfl, h1, r1⟩ := trodAll_cons r0
  obtain ⟨v2, vs2, d2, ds2, p2, q2, rfl, rfl, rfl, h2, r2⟩ := trodAll_cons r1
  obtain ⟨v3, vs3, d3, ds3, p3, q3, rfl, rfl, rfl, h3, r3⟩ := trodAll_cons r2
  obtain ⟨rfl, rfl, rfl⟩ := trodAll_nil r3
  obtain rfl : args = #[v0, v1, v2, v3] := by cases args; simp_all
  obtain ⟨rfl, rfl⟩ := trodVars_none hV
  obtain ⟨a0, len0, cap0, rfl⟩ := okWide_slice Try.underlying22 (hval 0 22 v0 rfl rfl)
  have k0 := h0
  have lt0 : ∀ x ∈ p0, x.block < W.heap.size := by obtain ⟨m, hm⟩ := k0; exact DataW.trod_lt m _ _ _ hm
  obtain ⟨z0, w0⟩ : ∃ zs, IsRow .u8 W a0 len0 cap0 zs := by
    obtain ⟨fuel, hf⟩ := h0
    rcases open_ints Try.underlying22 Try.underlying5 (by kernel_rfl) hf with ⟨hcs, _⟩ | ⟨x, l, c, zs, hcs, _, hl, hm, hz, _, hcell, hwz⟩
    · simp [Value.cells] at hcs
      obtain ⟨rfl, rfl, rfl⟩ := hcs
      exact ⟨[], .inl ⟨rfl, rfl, rfl, rfl⟩⟩
    · simp [Value.cells] at hcs
      obtain ⟨rfl, rfl, rfl⟩ := hcs
      exact ⟨zs, .inr ⟨_, rfl, hl, hm, by simpa using hz, hcell, hwz⟩⟩
  obtain ⟨a1, rfl, rfl, rfl, w1⟩ := open_int Try.underlying5 (hval 1 5 v1 rfl rfl) h1
  obtain ⟨a2, rfl, rfl, rfl, w2⟩ := open_int Try.underlying23 (hval 2 23 v2 rfl rfl) h2
  obtain ⟨a3, rfl, rfl, rfl, w3⟩ := open_int Try.underlying23 (hval 3 23 v3 rfl rfl) h3
  clear hA0 hval0
  refine (walk a0 len0 cap0 z0 a1 a2 a3 W w0 w1 w2 w3).mono fun e W' ⟨he, bel⟩ => ?_
  subst he
  exact ⟨_, rfl, _, _, _, [], _, [], hW', trodAll_mk1 (shut_bool Try.underlying4 _), (trodAll_cons_mk (Below.trod laidOut (by kernel_rfl) (of_decide_eq_true (by kernel_rfl)) k0 bel lt0) (trodAll_cons_mk (shut_int Try.underlying5 w1) (trodAll_cons_mk (shut_int Try.underlying23 w2) (trodAll_cons_mk (shut_int Try.underlying23 w3) trodAll_mk0)))), rfl, bel.frame _, fun h => by cases h⟩

theorem over : Rows.wordsHalvesRow.holds Try.pinned (OpenSpec.ofChange Rows.wordsHalvesSpec) :=
  OpenClaim.holds_of_wide 8 Try.f8 rfl rfl rfl rfl rfl rfl rfl ⟨rfl, rfl, rfl, rfl, rfl⟩ rfl rfl rfl rfl rfl (by kernel_rfl) Try.func8 (by kernel_rfl)
    (of_decide_eq_true (by kernel_rfl)) (by unfold Func.isWrapper; first | (rw [if_pos (by decide +kernel)]; kernel_rfl) | (rw [if_neg (by decide +kernel)]; exact ⟨rfl, rfl⟩))
    (fun os started H enc _ => lifted os started H enc)

/-- The statement. -/
theorem proved : Rows.WordsHalvesSaid := over
#print axioms proved
end Go.Proofs.Ytnlmbbhbpbbkaaa.wordsHalves
