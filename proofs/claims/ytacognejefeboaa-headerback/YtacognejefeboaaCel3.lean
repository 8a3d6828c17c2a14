/-
  Fill, Put and Add of a space that a call made.
-/
import Derived.Test.YtacognejefeboaaCel2
namespace Go.Proofs.Ytacognejefeboaa
open Go.ChangeShapes Go.WideShapes Go.ChangeAt Go.RowKit
set_option linter.unusedVariables false
set_option maxRecDepth 20000

/-! What Fill, Put and Add answer. -/
def fE (P a : Nat) (y t : Int) : Nat := if flB a y t = true then (if M.inB a (y.toNat * t.toNat) (P * 4096) = true then 0 else 3) else 1
def fT (P a : Nat) (y t : Int) : Nat := if fE P a y t = 0 then M.touched a (y.toNat * t.toNat) else 0
def fF (P : Nat) (f : Nat → UInt8) (a : Nat) (y : Int) (n : Nat) (t : Int) : Nat → UInt8 := if fE P a y t = 0 then M.wr f a (M.rep (M.enc y.toNat n) t.toNat) else f
def pF (P : Nat) (f : Nat → UInt8) (a : Nat) (y : Int) (n : Nat) : Nat → UInt8 := if gE P a y = 0 then M.wr f a (M.enc y.toNat n) else f
def aS (P : Nat) (f : Nat → UInt8) (a : Nat) (y : Int) (n : Nat) : Nat := (gV P f a y + n) % 18446744073709551616
theorem flB_cases {a : Nat} {y t : Int} (h : flB a y t = true) : ∃ k m : Nat, y = k ∧ t = m ∧ (k = 1 ∨ k = 2 ∨ k = 4 ∨ k = 8) ∧ a % k = 0 ∧ m ≤ 1048576 / k := by
  unfold flB at h
  rw [Bool.and_eq_true, Bool.and_eq_true] at h
  obtain ⟨h1, h2, h3⟩ := h
  obtain ⟨k, rfl, hk, hd⟩ := plB_cases h1
  have h2 := of_decide_eq_true h2
  have h3 := of_decide_eq_true h3
  refine ⟨k, t.toNat, rfl, by omega, hk, hd, ?_⟩
  rcases hk with rfl | rfl | rfl | rfl <;> omega
theorem fE_cases (P a : Nat) (y t : Int) : (flB a y t = true ∧ M.inB a (y.toNat * t.toNat) (P * 4096) = true ∧ fE P a y t = 0) ∨ (flB a y t = true ∧ M.inB a (y.toNat * t.toNat) (P * 4096) = false ∧ fE P a y t = 3) ∨ (flB a y t = false ∧ fE P a y t = 1) := by
  unfold fE
  by_cases h1 : flB a y t = true
  · by_cases h2 : M.inB a (y.toNat * t.toNat) (P * 4096) = true
    · exact Or.inl ⟨h1, h2, by rw [if_pos h1, if_pos h2]⟩
    · exact Or.inr (Or.inl ⟨h1, by simpa using h2, by rw [if_pos h1, if_neg h2]⟩)
  · exact Or.inr (Or.inr ⟨by simpa using h1, by rw [if_neg h1]⟩)
theorem fT_le {P a : Nat} {y t : Int} (hP : P ≤ 1048576) : fT P a y t ≤ 1048578 := by
  unfold fT
  split
  · next h =>
    rcases fE_cases P a y t with ⟨h1, h2, h3⟩ | ⟨h1, h2, h3⟩ | ⟨h1, h3⟩
    · exact touch_le h2 hP
    · omega
    · omega
  · omega
theorem flB_one (a : Nat) (y : Int) : flB a y 1 = plB a y := by
  unfold flB
  by_cases h : plB a y = true
  · obtain ⟨k, rfl, hk, hd⟩ := plB_cases h
    rw [h]
    rcases hk with rfl | rfl | rfl | rfl <;> decide
  · have : plB a y = false := by simpa using h
    rw [this, Bool.false_and]
theorem fE_one (P a : Nat) (y : Int) : fE P a y 1 = gE P a y := by
  unfold fE gE
  rw [flB_one, show (1 : Int).toNat = 1 from rfl, Nat.mul_one]
theorem fT_one (P a : Nat) (y : Int) : fT P a y 1 = gT P a y := by
  unfold fT gT
  rw [fE_one, show (1 : Int).toNat = 1 from rfl, Nat.mul_one]
theorem fF_one (P : Nat) (f : Nat → UInt8) (a : Nat) (y : Int) (n : Nat) : fF P f a y n 1 = pF P f a y n := by
  unfold fF pF
  rw [fE_one, show (1 : Int).toNat = 1 from rfl, M.rep_one]

theorem mul_top {k t : Nat} (hk : k = 1 ∨ k = 2 ∨ k = 4 ∨ k = 8) (h : t ≤ 1048576 / k) : k * t ≤ 1048576 := by
  rcases hk with rfl | rfl | rfl | rfl <;> omega
section
variable {w0 w w' : World} {s P T : Nat} {f : Nat → UInt8} {O O' : Nat → Prop}
theorem at_cfill (h : At w0 w s P T f O) (a n : Nat) (y t : Int) (ha : a < 18446744073709551616) (hn : n < 18446744073709551616) (hT : T ≤ 1000000000000) :
    Calls Try.prog 54 #[.pointer (some ⟨s, 0, none⟩), .int .u64 a, .int .i64 y, .int .u64 n, .int .i64 t] w fun e w' =>
      e = .returned (.int .i64 (fE P a y t : Nat)) ∧ At w0 w' s P (T + fT P a y t) (fF P f a y n t) (Wid O w w') ∧ Kept w w' O := by
  have hP := h.sp.top
  rcases fE_cases P a y t with ⟨h1, h2, h3⟩ | ⟨h1, h2, h3⟩ | ⟨h1, h3⟩
  · obtain ⟨k, m, rfl, rfl, hk, hd, hm⟩ := flB_cases h1
    unfold fT fF
    rw [h3, if_pos rfl, if_pos rfl]
    rw [Int.toNat_natCast, Int.toNat_natCast] at *
    have ht := touch_le h2 hP.2
    have hkm := mul_top hk hm
    refine (cfill_go _ a n k m hk hd hm ha hn w (fun err w' => err = 0 ∧ At w0 w' s P (T + M.touched a (k * m)) (M.wr f a (M.rep (M.enc k n) m)) (Wid O w w') ∧ Kept w w' O) ?_).mono ?_
    · rintro w1 g N rfl b1 o1 hg
      have h' := h.same b1
      refine (store_ok h'.sp a (k * m) (k * m) _ (M.rep (M.enc k n) m) (by rw [M.rep_length, M.enc_length, Nat.mul_comm]) o1.lies (Nat.le_refl _) (fun _ ad e hO => by
        injection e with e
        subst e
        have := h.sp.lt hO
        have : g < w.heap.size := this
        omega) ha h2 hkm (by omega)).mono ?_
      rintro e w2 ⟨rfl, S, k2⟩
      have hz := b1.size
      refine ⟨0, rfl, rfl, (h'.kept S k2 h'.wid).mono (fun b hb => hb.imp id (fun e => ⟨by omega, e.2⟩)) (fun b hb => hb.elim (fun e => Nat.lt_of_lt_of_le (h'.sp.lt e) k2.size) (fun e => e.2)) h.wid, (Kept.of_below b1 O).trans k2 (fun _ _ h => h)⟩
    · rintro e w' ⟨err, rfl, rfl, q⟩
      exact ⟨rfl, q⟩
  · obtain ⟨k, m, rfl, rfl, hk, hd, hm⟩ := flB_cases h1
    unfold fT fF
    rw [h3, if_neg (by omega), if_neg (by omega)]
    rw [Int.toNat_natCast, Int.toNat_natCast] at h2
    have hkm := mul_top hk hm
    refine (cfill_go _ a n k m hk hd hm ha hn w (fun err w' => err = 3 ∧ Below w.heap.size w w') ?_).mono ?_
    · rintro w1 g N rfl b1 o1 hg
      have h' := h.same b1
      refine (store_range h'.sp a (k * m) (k * m) _ (by omega) ha h2).mono ?_
      rintro e w2 ⟨rfl, b2⟩
      exact ⟨3, rfl, rfl, below_call b1 b2⟩
    · rintro e w' ⟨err, rfl, rfl, b⟩
      exact ⟨rfl, h.widen_same b⟩
  · refine (cfill_bad _ a n y t ha h1 w).mono ?_
    rintro e w' ⟨rfl, rfl⟩
    unfold fT fF
    rw [h3, if_neg (by omega), if_neg (by omega)]
    exact ⟨rfl, h.widen_same (Below.refl _ _)⟩
theorem at_cput (h : At w0 w s P T f O) (a n : Nat) (y : Int) (ha : a < 18446744073709551616) (hn : n < 18446744073709551616) (hT : T ≤ 1000000000000) :
    Calls Try.prog 35 #[.pointer (some ⟨s, 0, none⟩), .int .u64 a, .int .i64 y, .int .u64 n] w fun e w' =>
      e = .returned (.int .i64 (gE P a y : Nat)) ∧ At w0 w' s P (T + gT P a y) (pF P f a y n) (Wid O w w') ∧ Kept w w' O := by
  have hf := at_cfill h a n y 1 ha hn hT
  rw [fE_one, fT_one, fF_one] at hf
  have HF := Lib.hid hf
  clear hf h
  go_enter Try.func35, Try.ntmps35
  go_wp2_with fail
  refine (HF.out).mono ?_
  rintro e w1 ⟨rfl, q⟩
  have Q := Lib.hid q
  clear q
  go_wp2_with fail
  go_ret
  exact ⟨rfl, Q.out⟩
end
theorem cput_nil (a k n : Nat) (hk : k = 1 ∨ k = 2 ∨ k = 4 ∨ k = 8) (hd : a % k = 0) (ha : a < 18446744073709551616) (hn : n < 18446744073709551616) (w : World) :
    Calls Try.prog 35 #[.pointer none, .int .u64 a, .int .i64 k, .int .u64 n] w fun e w' => e = .returned (.int .i64 3) ∧ Below w.heap.size w w' := by
  have hf : Calls Try.prog 54 #[.pointer none, .int .u64 a, .int .i64 k, .int .u64 n, .int .i64 ((1 : Nat) : Int)] w (ErrIs fun err w' => err = 3 ∧ Below w.heap.size w w') := by
    refine cfill_go _ a n k 1 hk hd (by rcases hk with rfl | rfl | rfl | rfl <;> omega) ha hn w _ ?_
    rintro w1 g N rfl b1 o1 hg
    refine (store_nil w1 a (k * 1) (k * 1) _ (by omega)).mono ?_
    rintro e w2 ⟨rfl, b2⟩
    exact ⟨3, rfl, rfl, below_call b1 b2⟩
  have HF := Lib.hid hf
  clear hf
  go_enter Try.func35, Try.ntmps35
  go_wp2_with fail
  refine (HF.out).mono ?_
  rintro e w1 ⟨err, rfl, rfl, b⟩
  go_wp2_with fail
  go_ret
  exact ⟨rfl, b⟩
end Go.Proofs.Ytacognejefeboaa
