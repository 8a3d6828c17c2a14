/-
  Calls of cells of a width that there is, within a space; the document's example.
-/
import Derived.Test.YtpcahaihlcaabaaCel4
namespace Go.Proofs.Ytpcahaihlcaabaa
open Go.ChangeShapes Go.WideShapes Go.ChangeAt Go.RowKit
set_option linter.unusedVariables false
set_option maxRecDepth 20000

theorem touch_cell {a k : Nat} (hk : k = 1 ∨ k = 2 ∨ k = 4 ∨ k = 8) (hd : a % k = 0) : M.touched a k = 1 := by
  rw [M.touched_one]
  rcases hk with rfl | rfl | rfl | rfl <;> omega
theorem pow64 {k : Nat} (hk : k = 1 ∨ k = 2 ∨ k = 4 ∨ k = 8) (n : Nat) : n % 18446744073709551616 % 256 ^ k = n % 256 ^ k := by
  rcases hk with rfl | rfl | rfl | rfl <;> simp only [Nat.reducePow] <;> omega
section
variable {w0 w w' : World} {s P T : Nat} {f : Nat → UInt8} {O O' : Nat → Prop}
theorem gE_in (h : At w0 w s P T f O) {a k : Nat} (hk : k = 1 ∨ k = 2 ∨ k = 4 ∨ k = 8) (hd : a % k = 0) (hin : a + k ≤ P * 4096) : gE P a (k : Int) = 0 := by
  have hP := h.sp.top
  exact gE_of (plB_nat hk hd) (by rw [Int.toNat_natCast]; exact in_of hin (by omega))
theorem at_get (h : At w0 w s P T f O) (a k : Nat) (hk : k = 1 ∨ k = 2 ∨ k = 4 ∨ k = 8) (hd : a % k = 0) (hin : a + k ≤ P * 4096) (hT : T ≤ 900000000000) :
    Calls Try.prog 14 #[.pointer (some ⟨s, 0, none⟩), .int .u64 a, .int .i64 k] w fun e w' =>
      e = .returned (.tuple #[.int .u64 (M.num (M.rd f a k) : Nat), .int .i64 0]) ∧ At w0 w' s P (T + 1) f O ∧ Kept w w' O := by
  have hP := h.sp.top
  have q := at_cget h a k (by omega) (by omega)
  have hE := gE_in h hk hd hin
  unfold gV gT at q
  rw [hE, if_pos rfl, if_pos rfl, Int.toNat_natCast, touch_cell hk hd] at q
  exact q
theorem at_put (h : At w0 w s P T f O) (a k n : Nat) (hk : k = 1 ∨ k = 2 ∨ k = 4 ∨ k = 8) (hd : a % k = 0) (hin : a + k ≤ P * 4096) (hn : n < 18446744073709551616) (hT : T ≤ 900000000000) :
    Calls Try.prog 16 #[.pointer (some ⟨s, 0, none⟩), .int .u64 a, .int .i64 k, .int .u64 n] w fun e w' =>
      e = .returned (.int .i64 0) ∧ At w0 w' s P (T + 1) (M.wr f a (M.enc k n)) (Wid O w w') ∧ Kept w w' O := by
  have hP := h.sp.top
  have q := at_cput h a n k (by omega) hn (by omega)
  have hE := gE_in h hk hd hin
  unfold pF gT at q
  rw [hE, if_pos rfl, if_pos rfl, Int.toNat_natCast, touch_cell hk hd] at q
  exact q
theorem at_add (h : At w0 w s P T f O) (a k n : Nat) (hk : k = 1 ∨ k = 2 ∨ k = 4 ∨ k = 8) (hd : a % k = 0) (hin : a + k ≤ P * 4096) (hn : n < 18446744073709551616) (hT : T ≤ 900000000000) :
    Calls Try.prog 18 #[.pointer (some ⟨s, 0, none⟩), .int .u64 a, .int .i64 k, .int .u64 n] w fun e w' =>
      e = .returned (.tuple #[.int .u64 (M.num (M.rd f a k) : Nat), .int .i64 0]) ∧ At w0 w' s P (T + 2) (M.wr f a (M.enc k (M.num (M.rd f a k) + n))) (Wid O w w') ∧ Kept w w' O := by
  have hP := h.sp.top
  have q := at_cadd h a n k (by omega) hn (by omega)
  have hE := gE_in h hk hd hin
  unfold aF pF aS aT gT gV at q
  rw [hE, if_pos rfl, if_pos rfl, if_pos rfl, Int.toNat_natCast, touch_cell hk hd, M.enc_eq k _ (M.num (M.rd f a k) + n) (pow64 hk _)] at q
  exact q
theorem at_fill (h : At w0 w s P T f O) (a k n t : Nat) (hk : k = 1 ∨ k = 2 ∨ k = 4 ∨ k = 8) (hd : a % k = 0) (ht : t ≤ 1048576 / k) (hin : a + k * t ≤ P * 4096) (ha : a < 18446744073709551616) (hn : n < 18446744073709551616) (hT : T ≤ 900000000000) :
    Calls Try.prog 20 #[.pointer (some ⟨s, 0, none⟩), .int .u64 a, .int .i64 k, .int .u64 n, .int .i64 t] w fun e w' =>
      e = .returned (.int .i64 0) ∧ At w0 w' s P (T + M.touched a (k * t)) (M.wr f a (M.rep (M.enc k n) t)) (Wid O w w') ∧ Kept w w' O := by
  have hP := h.sp.top
  have q := at_cfill h a n k t ha hn (by omega)
  have h1 : flB a (k : Int) (t : Int) = true := by
    unfold flB
    rw [plB_nat hk hd]
    have : (t : Int) ≤ 1048576 / (k : Int) := by rcases hk with rfl | rfl | rfl | rfl <;> omega
    simp [this]
  have hE : fE P a (k : Int) (t : Int) = 0 := by
    unfold fE
    rw [if_pos h1, Int.toNat_natCast, Int.toNat_natCast, if_pos (in_of hin (by omega))]
  unfold fF fT at q
  rw [hE, if_pos rfl, if_pos rfl, Int.toNat_natCast, Int.toNat_natCast] at q
  exact q
theorem at_put_bad (h : At w0 w s P T f O) (a n : Nat) (y : Int) (ha : a < 18446744073709551616) (hb : plB a y = false) :
    Calls Try.prog 16 #[.pointer (some ⟨s, 0, none⟩), .int .u64 a, .int .i64 y, .int .u64 n] w fun e w' => e = .returned (.int .i64 1) ∧ w = w' := by
  have hf := cfill_bad (.pointer (some ⟨s, 0, none⟩)) a n y 1 ha (by rw [flB_one]; exact hb) w
  have HF := Lib.hid hf
  clear hf h hb
  go_enter Try.func16, Try.ntmps16
  go_wp2_with fail
  refine (HF.out).mono ?_
  rintro e w' ⟨rfl, rfl⟩
  go_wp2_with fail
  go_ret
  exact ⟨rfl, rfl⟩
end
theorem num_wr (f : Nat → UInt8) (a k n : Nat) : M.num (M.rd (M.wr f a (M.enc k n)) a k) = n % 256 ^ k := by
  have h := M.rd_wr f a (M.enc k n)
  rw [M.enc_length] at h
  rw [h, M.num_enc]

theorem awake_any (w : World) : Calls Try.prog 9 #[] w fun e w' => e = .returned (.bool true) ∧ Below w.heap.size w w' := by
  go_enter Try.func9, Try.ntmps9
  go_wp2_with fail
  refine (at_new (Below.refl w.heap.size w) 1 1 (by decide)).mono ?_
  rintro e w1 ⟨s, O1, rfl, A1⟩
  have H1 := Lib.hid A1
  clear A1
  go_wp2_with fail
  refine (at_put H1.out 4 2 258 (by decide) (by decide) (by decide) (by decide) (by decide)).mono ?_
  rintro e w2 ⟨rfl, A2, _⟩
  have H2 := Lib.hid A2
  clear A2 H1
  go_wp2_with fail
  refine (at_add H2.out 4 2 65535 (by decide) (by decide) (by decide) (by decide) (by decide)).mono ?_
  rw [num_wr]
  rintro e w3 ⟨rfl, A3, _⟩
  have H3 := Lib.hid A3
  clear A3 H2
  go_wp2_with fail
  refine (at_get H3.out 4 2 (by decide) (by decide) (by decide) (by decide)).mono ?_
  rw [num_wr]
  rintro e w4 ⟨rfl, A4, _⟩
  have H4 := Lib.hid A4
  clear A4 H3
  go_wp2_with fail
  refine (at_put_bad H4.out 2 1 4 (by decide) (by decide)).mono ?_
  rintro e w' ⟨rfl, rfl⟩
  go_wp2_with fail
  refine (ticks_at H4.out).mono ?_
  rintro e w' ⟨rfl, rfl⟩
  go_wp2
  go_ret
  exact ⟨rfl, H4.out.bel⟩
end Go.Proofs.Ytpcahaihlcaabaa
