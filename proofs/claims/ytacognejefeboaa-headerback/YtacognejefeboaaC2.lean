/-
  What each function of package words comes to.
-/
import Derived.Test.YtacognejefeboaaBytes
import Derived.Test.YtacognejefeboaaM2
namespace Go.Proofs.Ytacognejefeboaa
open Go.ChangeShapes Go.WideShapes Go.ChangeAt Go.RowKit
set_option linter.unusedVariables false

theorem isWidth_any (x : Int) (w : World) : Calls Try.prog 46 #[.int .i64 x] w fun e w' => e = .returned (.bool (M.wide x)) ∧ w = w' := by
  go_enter Try.func46, Try.ntmps46
  go_wp2
  all_goals go_ret
  all_goals exact ⟨retB (by simp [M.wide, Bool.or_assoc, *]), rfl⟩
theorem room_any (z : Nat) (x y : Int) (hz : z ≤ 140737488355328) (hx : -9223372036854775808 ≤ x ∧ x ≤ 9223372036854775807) (w : World) :
    Calls Try.prog 61 #[.int .i64 z, .int .i64 x, .int .i64 y] w fun e w' => e = .returned (.bool (M.has z x y)) ∧ w = w' := by
  by_cases hw : M.wide y = true
  · obtain ⟨k, rfl, hk⟩ := M.wide_cases hw
    have hk8 : k ≤ 8 := by omega
    have HK := Lib.hid hk; clear hk
    by_cases h0 : 0 ≤ x
    · go_enter Try.func61, Try.ntmps61
      go_wp2_with (go_at_call 46; refine (isWidth_any _ _).mono ?_; rintro e w' ⟨rfl, rfl⟩)
      all_goals go_ret
      all_goals exact ⟨retB (by simp only [M.has, hw, h0, decide_true, Bool.true_and]; rw [decide_eq_decide]; omega), rfl⟩
    · have hd : decide (0 ≤ x) = false := by simpa using h0
      go_enter Try.func61, Try.ntmps61
      go_wp2_with (go_at_call 46; refine (isWidth_any _ _).mono ?_; rintro e w' ⟨rfl, rfl⟩)
      all_goals go_ret
      all_goals exact ⟨retB (by simp [M.has, hd]), rfl⟩
  · have hw' : M.wide y = false := by simpa using hw
    clear hw
    go_enter Try.func61, Try.ntmps61
    go_wp2_with (go_at_call 46; refine (isWidth_any _ _).mono ?_; rintro e w' ⟨rfl, rfl⟩)
    all_goals go_ret
    all_goals exact ⟨retB (by simp [M.has, hw']), rfl⟩
theorem two_pow_eight (j : Nat) : 2 ^ (8 * j) = 256 ^ j := by rw [Nat.pow_mul]
theorem or_byte (m b j : Nat) (hm : m < 256 ^ j) (hb : b < 256) (hj : j < 8) :
    bits .or .u64 (m : Int) (IntKind.u64.wrap ((b : Int) * 2 ^ (8 * j))) = ((m + 256 ^ j * b : Nat) : Int) := by
  have e1 : ((b : Int) * 2 ^ (8 * j)) = ((2 ^ (8 * j) * b : Nat) : Int) := by
    rw [Nat.mul_comm (2 ^ (8 * j)) b]; simp
  have hp : 256 ^ j * 256 ≤ 18446744073709551616 := by
    rw [← Nat.pow_succ]
    exact Nat.le_trans (Nat.pow_le_pow_right (by decide) (show j + 1 ≤ 8 by omega)) (by decide)
  have hq : 256 ^ j * b < 256 ^ j * 256 := (Nat.mul_lt_mul_left (Nat.pow_pos (by decide))).2 hb
  have hs : 256 ^ j * (b + 1) ≤ 256 ^ j * 256 := Nat.mul_le_mul_left _ (by omega)
  rw [Nat.mul_add] at hs
  have e2 : IntKind.u64.wrap ((b : Int) * 2 ^ (8 * j)) = ((2 ^ (8 * j) * b : Nat) : Int) := by
    rw [e1, wrapU, two_pow_eight]
    generalize 256 ^ j * b = q at *
    omega
  rw [e2, bits_or_u64_nat _ _ (by omega) (by rw [two_pow_eight]; omega), Nat.or_comm, ← Nat.two_pow_add_eq_or_of_lt (by rw [two_pow_eight]; exact hm), two_pow_eight, Nat.add_comm]
theorem low_byte (n j : Nat) : IntKind.u8.wrap ((n : Int) / 2 ^ (8 * j)) = ((UInt8.ofNat (n / 256 ^ j)).toNat : Int) := by
  have e : (n : Int) / 2 ^ (8 * j) = ((n / 256 ^ j : Nat) : Int) := by rw [← two_pow_eight]; simp
  rw [e, IntKind.wrap_u8, UInt8.toNat_ofNat']
  omega
theorem get_no (A : Option Addr) (l : List UInt8) (c : Nat) (x y : Int) (hz : l.length ≤ 140737488355328) (hx : -9223372036854775808 ≤ x ∧ x ≤ 9223372036854775807) (h : M.has l.length x y = false) (w : World) :
    Calls Try.prog 63 #[.slice A l.length c, .int .i64 x, .int .i64 y] w fun e w' => e = .returned (.tuple #[.int .u64 0, .bool false]) ∧ w = w' := by
  go_enter Try.func63, Try.ntmps63
  go_wp2_with (go_at_call 61; refine (room_any _ _ _ hz hx _).mono ?_; rintro e w' ⟨rfl, rfl⟩)
  go_ret2
  exact ⟨rfl, rfl⟩
set_option maxHeartbeats 400000 in
theorem get_yes (A : Option Addr) (l : List UInt8) (c a k : Nat) (hk : k = 1 ∨ k = 2 ∨ k = 4 ∨ k = 8) (hz : l.length ≤ 140737488355328) (h : a + k ≤ l.length) (w : World) (hl : Lies w A (u8s l)) :
    Calls Try.prog 63 #[.slice A l.length c, .int .i64 a, .int .i64 k] w fun e w' => e = .returned (.tuple #[.int .u64 (M.num (M.seg l a k) : Nat), .bool true]) ∧ w = w' := by
  have hh := M.has_nat hk h
  have hk8 : k ≤ 8 := by omega
  have hk0 : 0 < k := by omega
  obtain ⟨ad, rfl, hc⟩ := hl (by rw [u8s_length]; omega)
  have HC := Lib.hid hc; clear hc
  have HK := Lib.hid hk; clear hk
  go_enter Try.func63, Try.ntmps63
  go_wp2_with (go_at_call 61; refine (room_any _ _ _ hz (by omega) _).mono ?_; rintro e w' ⟨rfl, rfl⟩)
  go_loop [8, 17] (fun n i => ∃ j : Nat, j ≤ k ∧ i = .int .i64 j ∧ n = .int .u64 (M.num (M.seg l a j) : Nat)) (fun _ i => k - (intOf i).toNat)
  case atStart => exact ⟨0, by omega, rfl, by simp [M.seg, M.num]⟩
  case round =>
    obtain ⟨j, hj, rfl, rfl⟩ := hrel
    by_cases hlt : j < k
    · have hc := HC.out (a + j) (by rw [u8s_length]; omega)
      have hsn := M.num_seg_succ l a j (by omega)
      have hsl := M.num_seg_lt l a j (by omega)
      simp only [u8s, List.getElem_map] at hc
      generalize l[a + j] = b at hc hsn
      have hb := b.toNat_lt
      have HS := Lib.hid hsn; clear hsn
      have HL := Lib.hid hsl; clear hsl
      go_wp2
      go_round
      case rel => exact ⟨j + 1, by omega, by go_num, by rw [or_byte _ _ _ HL.out hb (by omega), HS.out]⟩
      case measure => simp [intOf]; omega
    · go_wp2
      go_ret2
      exact ⟨ret2 (by rw [show j = k by omega]) rfl, rfl⟩
theorem get_any (A : Option Addr) (l : List UInt8) (c : Nat) (x y : Int) (hz : l.length ≤ 140737488355328) (hx : -9223372036854775808 ≤ x ∧ x ≤ 9223372036854775807) (w : World) (hl : Lies w A (u8s l)) :
    Calls Try.prog 63 #[.slice A l.length c, .int .i64 x, .int .i64 y] w fun e w' =>
      e = .returned (.tuple #[.int .u64 (if M.has l.length x y = true then M.num (M.seg l x.toNat y.toNat) else 0 : Nat), .bool (M.has l.length x y)]) ∧ w = w' := by
  by_cases h : M.has l.length x y = true
  · obtain ⟨a, k, rfl, rfl, hk, hak⟩ := M.has_cases h
    rw [if_pos h, h]
    exact get_yes A l c a k hk hz hak w hl
  · have h' : M.has l.length x y = false := by simpa using h
    rw [if_neg h, h']
    exact get_no A l c x y hz hx h' w
theorem put_no (A : Option Addr) (z c : Nat) (x y : Int) (n : Nat) (hz : z ≤ 140737488355328) (hx : -9223372036854775808 ≤ x ∧ x ≤ 9223372036854775807) (h : M.has z x y = false) (w : World) :
    Calls Try.prog 47 #[.slice A z c, .int .i64 x, .int .i64 y, .int .u64 n] w fun e w' => e = .returned (.bool false) ∧ w = w' := by
  go_enter Try.func47, Try.ntmps47
  go_wp2_with (go_at_call 61; refine (room_any _ _ _ hz hx _).mono ?_; rintro e w' ⟨rfl, rfl⟩)
  go_ret
  exact ⟨rfl, rfl⟩
set_option maxHeartbeats 400000 in
theorem put_yes (g : Nat) (l : List UInt8) (c a k n : Nat) (hk : k = 1 ∨ k = 2 ∨ k = 4 ∨ k = 8) (hn : n < 18446744073709551616) (hz : l.length ≤ 140737488355328) (h : a + k ≤ l.length) (w : World) (hl : Own w g l) :
    Calls Try.prog 47 #[.slice (some ⟨g, 0, none⟩) l.length c, .int .i64 a, .int .i64 k, .int .u64 n] w fun e w' => e = .returned (.bool true) ∧ Own w' g (M.put l a k n) ∧ w.grownBy w' (some g) := by
  have hh := M.has_nat hk h
  have hk8 : k ≤ 8 := by omega
  have hk0 : 0 < k := by omega
  have HK := Lib.hid hk; clear hk
  go_enter Try.func47, Try.ntmps47
  go_wp2_with (go_at_call 61; refine (room_any _ _ _ hz (by omega) _).mono ?_; rintro e w' ⟨rfl, rfl⟩)
  go_loopw [17] (fun i wr => ∃ j : Nat, j ≤ k ∧ i = .int .i64 j ∧ Own wr g (M.put l a j n) ∧ w.grownBy wr (some g)) (fun i _ => k - (intOf i).toNat)
  case atStart => exact ⟨0, by omega, rfl, by rw [M.put_zero]; exact hl, World.grownBy.refl w _⟩
  case round =>
    obtain ⟨j, hj, rfl, ho, hg⟩ := hrel
    by_cases hlt : j < k
    · have hpl := M.put_length l a j n (by omega)
      have hc := ho.1 (a + j) (by omega)
      have hf := ho.2 (a + j) (by omega)
      have hs := ho.set (a + j) (by omega) (UInt8.ofNat (n / 256 ^ j))
      rw [← M.put_succ l a j n (by omega), ← low_byte] at hs
      have HS := Lib.hid hs; clear hs
      generalize (M.put l a j n)[a + j].toNat = b at hc
      clear hpl
      go_wp2
      go_roundw
      case rel => exact ⟨j + 1, by omega, by go_num, HS.out, only_setCell hg rfl _⟩
      case measure => simp [intOf]; omega
    · go_wp2
      go_ret
      exact ⟨rfl, by rw [show k = j by omega]; exact ho, hg⟩
/-- Does a number fit? -/
def fitsB (n : Nat) (y : Int) : Bool := M.wide y && decide (n < 256 ^ y.toNat)
theorem fits_1 (n : Nat) : ((n : Int) / 256 == 0) = fitsB n ((1 : Nat) : Int) := by
  rw [Bool.eq_iff_iff]; simp [fitsB, M.wide]; omega
theorem fits_2 (n : Nat) : ((n : Int) / 65536 == 0) = fitsB n ((2 : Nat) : Int) := by
  rw [Bool.eq_iff_iff]; simp [fitsB, M.wide]; omega
theorem fits_4 (n : Nat) : ((n : Int) / 4294967296 == 0) = fitsB n ((4 : Nat) : Int) := by
  rw [Bool.eq_iff_iff]; simp [fitsB, M.wide]; omega
theorem fits_8 (n : Nat) : ((n : Int) / 18446744073709551616 == 0) = fitsB n ((8 : Nat) : Int) := by
  rw [Bool.eq_iff_iff]; simp [fitsB, M.wide]; omega
theorem fits_any (n : Nat) (y : Int) (hn : n < 18446744073709551616) (w : World) :
    Calls Try.prog 68 #[.int .u64 n, .int .i64 y] w fun e w' => e = .returned (.bool (fitsB n y)) ∧ w = w' := by
  by_cases hw : M.wide y = true
  · obtain ⟨k, rfl, hk⟩ := M.wide_cases hw
    rcases hk with rfl | rfl | rfl | rfl
    all_goals
      go_enter Try.func68, Try.ntmps68
      go_wp2_with (go_at_call 46; refine (isWidth_any _ _).mono ?_; rintro e w' ⟨rfl, rfl⟩)
      go_ret
    · exact ⟨retB (fits_1 n), rfl⟩
    · exact ⟨retB (fits_2 n), rfl⟩
    · exact ⟨retB (fits_4 n), rfl⟩
    · exact ⟨retB (fits_8 n), rfl⟩
  · have hw' : M.wide y = false := by simpa using hw
    clear hw
    go_enter Try.func68, Try.ntmps68
    go_wp2_with (go_at_call 46; refine (isWidth_any _ _).mono ?_; rintro e w' ⟨rfl, rfl⟩)
    go_ret
    exact ⟨retB (by simp [fitsB, hw']), rfl⟩
theorem sgn_1 (n : Nat) : wrap64 (IntKind.u64.wrap ((n : Int) * 72057594037927936)) / 72057594037927936 = M.sgn (((1 : Nat) : Int).toNat) n := by
  simp only [wrap64, wrapU, M.sgn, Int.toNat_natCast, Nat.reducePow, Nat.reduceDiv]
  split <;> omega
theorem sgn_2 (n : Nat) : wrap64 (IntKind.u64.wrap ((n : Int) * 281474976710656)) / 281474976710656 = M.sgn (((2 : Nat) : Int).toNat) n := by
  simp only [wrap64, wrapU, M.sgn, Int.toNat_natCast, Nat.reducePow, Nat.reduceDiv]
  split <;> omega
theorem sgn_4 (n : Nat) : wrap64 (IntKind.u64.wrap ((n : Int) * 4294967296)) / 4294967296 = M.sgn (((4 : Nat) : Int).toNat) n := by
  simp only [wrap64, wrapU, M.sgn, Int.toNat_natCast, Nat.reducePow, Nat.reduceDiv]
  split <;> omega
theorem sgn_8 (n : Nat) (hn : n < 18446744073709551616) : wrap64 (n : Int) = M.sgn (((8 : Nat) : Int).toNat) n := by
  simp only [wrap64, M.sgn, Int.toNat_natCast, Nat.reducePow, Nat.reduceDiv]
  split <;> omega
theorem put_at (g z c : Nat) (l : List UInt8) (x y m : Int) (a k n : Nat) (ez : z = l.length) (ex : x = a) (ey : y = k) (em : m = n) (hk : k = 1 ∨ k = 2 ∨ k = 4 ∨ k = 8) (hn : n < 18446744073709551616) (hz : l.length ≤ 140737488355328) (h : a + k ≤ l.length) (w : World) (hl : Own w g l) :
    Calls Try.prog 47 #[.slice (some ⟨g, 0, none⟩) z c, .int .i64 x, .int .i64 y, .int .u64 m] w fun e w' => e = .returned (.bool true) ∧ Own w' g (M.put l a k n) ∧ w.grownBy w' (some g) := by
  subst ez ex ey em
  exact put_yes g l c a k n hk hn hz h w hl
theorem bytes_no (y : Int) (A : Option Addr) (z c : Nat) (h : M.wide y = false) (w : World) :
    Calls Try.prog 25 #[.int .i64 y, .slice A z c] w fun e w' => e = .returned (.slice none 0 0) ∧ w = w' := by
  go_enter Try.func25, Try.ntmps25
  go_wp2_with (go_at_call 46; refine (isWidth_any _ _).mono ?_; rintro e w' ⟨rfl, rfl⟩)
  go_ret
  exact ⟨rfl, rfl⟩
theorem bytes_step {w wr w1 : World} {k : Nat} {l : List Nat} {j : Nat} (h : j < l.length) (hg : w.heap.size < wr.heap.size) (hb : Below w.heap.size w wr) (h1 : Own w1 w.heap.size (M.put (M.part k l j) (j * k) k l[j]) ∧ wr.grownBy w1 (some w.heap.size)) :
    Own w1 w.heap.size (M.part k l (j + 1)) ∧ Below w.heap.size w w1 ∧ w.heap.size < w1.heap.size := by
  rw [M.part_succ k l j h] at h1
  exact ⟨h1.1, hb.grown h1.2 (by omega) (fun k hk => by injection hk with hk; omega), Nat.lt_of_lt_of_le hg h1.2.size⟩
set_option maxHeartbeats 400000 in
theorem bytes_yes (k : Nat) (hk : k = 1 ∨ k = 2 ∨ k = 4 ∨ k = 8) (A : Option Addr) (l : List Nat) (c : Nat) (hz : l.length ≤ 1099511627776) (hb : ∀ n ∈ l, n < 18446744073709551616) (w : World) (hl : Lies w A (u64s l)) :
    Calls Try.prog 25 #[.int .i64 k, .slice A l.length c] w fun e w' =>
      e = .returned (.slice (some ⟨w.heap.size, 0, none⟩) (l.length * k) (l.length * k)) ∧ Own w' w.heap.size (M.bts k l) ∧ Below w.heap.size w w' := by
  have HB := Lib.hid hb; clear hb
  have HL := Lib.hid hl; clear hl
  rcases hk with rfl | rfl | rfl | rfl
  · have hw1 : M.wide 1 = true := rfl
    have hmk := fun W => make22 l.length l.length (by omega) (by omega) W
    go_enter Try.func25, Try.ntmps25
    go_wp2_with (go_at_call 46; refine (isWidth_any _ _).mono ?_; rintro e w' ⟨rfl, rfl⟩)
    have hown : Own (w.alloc (.cells (madeCells #[.int .u8 0] l.length) 5)) w.heap.size (M.part 1 l 0) := by rw [M.part_zero]; rw [Nat.mul_one]; exact own_made _ _
    go_loopw [18] (fun i wr => ∃ j : Nat, j ≤ l.length ∧ i = .int .i64 j ∧ Own wr w.heap.size (M.part 1 l j) ∧ Below w.heap.size w wr ∧ w.heap.size < wr.heap.size) (fun i _ => l.length - (intOf i).toNat)
    case atStart => exact ⟨0, by omega, rfl, hown, (Below.refl _ _).alloc (Nat.le_refl _) _, by simp⟩
    case round =>
      clear hown
      obtain ⟨j, hj, rfl, ho, hbl, hsz⟩ := hrel
      by_cases hlt : j < l.length
      · obtain ⟨ad, rfl, hc⟩ := (HL.out.below hbl) (by rw [u64s_length]; omega)
        have hcj := hc j (by rw [u64s_length]; omega)
        simp only [u64s, List.getElem_map] at hcj
        have hnj := HB.out l[j] (List.getElem_mem _)
        have hpl := M.part_length 1 l j hj
        have HC := Lib.hid hc; clear hc
        have HP := Lib.hid hpl; clear hpl
        go_wp2_with fail
        refine (put_at _ _ _ _ _ _ _ (j * 1) 1 l[j] (by rw [HP.out]; omega) (by omega) rfl rfl (by omega) hnj (by have := HP.out; omega) (by have := HP.out; omega) _ ho).mono ?_
        rintro e w1 ⟨rfl, h1⟩
        have H1 := bytes_step hlt hsz hbl h1
        clear h1
        go_wp2
        go_roundw
        case rel => exact ⟨j + 1, by omega, by go_num, H1.1, H1.2.1, H1.2.2⟩
        case measure => simp [intOf]; omega
      · have e : j = l.length := by omega
        rw [e, M.part_all] at ho
        clear e
        go_wp2
        go_ret
        exact ⟨by rw [Nat.mul_one]; rfl, ho, hbl⟩
  · have hw2 : M.wide 2 = true := rfl
    have hmk := fun W => make22 (l.length * 2) (l.length * 2) (by omega) (by omega) W
    go_enter Try.func25, Try.ntmps25
    go_wp2_with (go_at_call 46; refine (isWidth_any _ _).mono ?_; rintro e w' ⟨rfl, rfl⟩)
    have hown : Own (w.alloc (.cells (madeCells #[.int .u8 0] (l.length * 2)) 5)) w.heap.size (M.part 2 l 0) := by rw [M.part_zero]; exact own_made _ _
    go_loopw [18] (fun i wr => ∃ j : Nat, j ≤ l.length ∧ i = .int .i64 j ∧ Own wr w.heap.size (M.part 2 l j) ∧ Below w.heap.size w wr ∧ w.heap.size < wr.heap.size) (fun i _ => l.length - (intOf i).toNat)
    case atStart => exact ⟨0, by omega, rfl, hown, (Below.refl _ _).alloc (Nat.le_refl _) _, by simp⟩
    case round =>
      clear hown
      obtain ⟨j, hj, rfl, ho, hbl, hsz⟩ := hrel
      by_cases hlt : j < l.length
      · obtain ⟨ad, rfl, hc⟩ := (HL.out.below hbl) (by rw [u64s_length]; omega)
        have hcj := hc j (by rw [u64s_length]; omega)
        simp only [u64s, List.getElem_map] at hcj
        have hnj := HB.out l[j] (List.getElem_mem _)
        have hpl := M.part_length 2 l j hj
        have HC := Lib.hid hc; clear hc
        have HP := Lib.hid hpl; clear hpl
        go_wp2_with fail
        refine (put_at _ _ _ _ _ _ _ (j * 2) 2 l[j] (by rw [HP.out]) (by omega) rfl rfl (by omega) hnj (by have := HP.out; omega) (by have := HP.out; omega) _ ho).mono ?_
        rintro e w1 ⟨rfl, h1⟩
        have H1 := bytes_step hlt hsz hbl h1
        clear h1
        go_wp2
        go_roundw
        case rel => exact ⟨j + 1, by omega, by go_num, H1.1, H1.2.1, H1.2.2⟩
        case measure => simp [intOf]; omega
      · have e : j = l.length := by omega
        rw [e, M.part_all] at ho
        clear e
        go_wp2
        go_ret
        exact ⟨rfl, ho, hbl⟩
  · have hw4 : M.wide 4 = true := rfl
    have hmk := fun W => make22 (l.length * 4) (l.length * 4) (by omega) (by omega) W
    go_enter Try.func25, Try.ntmps25
    go_wp2_with (go_at_call 46; refine (isWidth_any _ _).mono ?_; rintro e w' ⟨rfl, rfl⟩)
    have hown : Own (w.alloc (.cells (madeCells #[.int .u8 0] (l.length * 4)) 5)) w.heap.size (M.part 4 l 0) := by rw [M.part_zero]; exact own_made _ _
    go_loopw [18] (fun i wr => ∃ j : Nat, j ≤ l.length ∧ i = .int .i64 j ∧ Own wr w.heap.size (M.part 4 l j) ∧ Below w.heap.size w wr ∧ w.heap.size < wr.heap.size) (fun i _ => l.length - (intOf i).toNat)
    case atStart => exact ⟨0, by omega, rfl, hown, (Below.refl _ _).alloc (Nat.le_refl _) _, by simp⟩
    case round =>
      clear hown
      obtain ⟨j, hj, rfl, ho, hbl, hsz⟩ := hrel
      by_cases hlt : j < l.length
      · obtain ⟨ad, rfl, hc⟩ := (HL.out.below hbl) (by rw [u64s_length]; omega)
        have hcj := hc j (by rw [u64s_length]; omega)
        simp only [u64s, List.getElem_map] at hcj
        have hnj := HB.out l[j] (List.getElem_mem _)
        have hpl := M.part_length 4 l j hj
        have HC := Lib.hid hc; clear hc
        have HP := Lib.hid hpl; clear hpl
        go_wp2_with fail
        refine (put_at _ _ _ _ _ _ _ (j * 4) 4 l[j] (by rw [HP.out]) (by omega) rfl rfl (by omega) hnj (by have := HP.out; omega) (by have := HP.out; omega) _ ho).mono ?_
        rintro e w1 ⟨rfl, h1⟩
        have H1 := bytes_step hlt hsz hbl h1
        clear h1
        go_wp2
        go_roundw
        case rel => exact ⟨j + 1, by omega, by go_num, H1.1, H1.2.1, H1.2.2⟩
        case measure => simp [intOf]; omega
      · have e : j = l.length := by omega
        rw [e, M.part_all] at ho
        clear e
        go_wp2
        go_ret
        exact ⟨rfl, ho, hbl⟩
  · have hw8 : M.wide 8 = true := rfl
    have hmk := fun W => make22 (l.length * 8) (l.length * 8) (by omega) (by omega) W
    go_enter Try.func25, Try.ntmps25
    go_wp2_with (go_at_call 46; refine (isWidth_any _ _).mono ?_; rintro e w' ⟨rfl, rfl⟩)
    have hown : Own (w.alloc (.cells (madeCells #[.int .u8 0] (l.length * 8)) 5)) w.heap.size (M.part 8 l 0) := by rw [M.part_zero]; exact own_made _ _
    go_loopw [18] (fun i wr => ∃ j : Nat, j ≤ l.length ∧ i = .int .i64 j ∧ Own wr w.heap.size (M.part 8 l j) ∧ Below w.heap.size w wr ∧ w.heap.size < wr.heap.size) (fun i _ => l.length - (intOf i).toNat)
    case atStart => exact ⟨0, by omega, rfl, hown, (Below.refl _ _).alloc (Nat.le_refl _) _, by simp⟩
    case round =>
      clear hown
      obtain ⟨j, hj, rfl, ho, hbl, hsz⟩ := hrel
      by_cases hlt : j < l.length
      · obtain ⟨ad, rfl, hc⟩ := (HL.out.below hbl) (by rw [u64s_length]; omega)
        have hcj := hc j (by rw [u64s_length]; omega)
        simp only [u64s, List.getElem_map] at hcj
        have hnj := HB.out l[j] (List.getElem_mem _)
        have hpl := M.part_length 8 l j hj
        have HC := Lib.hid hc; clear hc
        have HP := Lib.hid hpl; clear hpl
        go_wp2_with fail
        refine (put_at _ _ _ _ _ _ _ (j * 8) 8 l[j] (by rw [HP.out]) (by omega) rfl rfl (by omega) hnj (by have := HP.out; omega) (by have := HP.out; omega) _ ho).mono ?_
        rintro e w1 ⟨rfl, h1⟩
        have H1 := bytes_step hlt hsz hbl h1
        clear h1
        go_wp2
        go_roundw
        case rel => exact ⟨j + 1, by omega, by go_num, H1.1, H1.2.1, H1.2.2⟩
        case measure => simp [intOf]; omega
      · have e : j = l.length := by omega
        rw [e, M.part_all] at ho
        clear e
        go_wp2
        go_ret
        exact ⟨rfl, ho, hbl⟩
/-- The bytes of numbers, of any width. -/
def btsOf (y : Int) (l : List Nat) : List UInt8 := if M.wide y = true then M.bts y.toNat l else []
theorem btsOf_wide {k : Nat} (hk : k = 1 ∨ k = 2 ∨ k = 4 ∨ k = 8) (l : List Nat) : btsOf (k : Int) l = M.bts k l := by
  unfold btsOf; rw [if_pos (M.wide_nat hk)]; rfl
theorem bytes_any (y : Int) (A : Option Addr) (l : List Nat) (c : Nat) (hz : l.length ≤ 1099511627776) (hb : ∀ n ∈ l, n < 18446744073709551616) (w : World) (hl : Lies w A (u64s l)) :
    Calls Try.prog 25 #[.int .i64 y, .slice A l.length c] w fun e w' =>
      ∃ A' c', e = .returned (.slice A' (btsOf y l).length c') ∧ Lies w' A' (u8s (btsOf y l)) ∧ Below w.heap.size w w' := by
  by_cases hw : M.wide y = true
  · obtain ⟨k, rfl, hk⟩ := M.wide_cases hw
    rw [btsOf_wide hk]
    refine (bytes_yes k hk A l c hz hb w hl).mono ?_
    rintro e w' ⟨rfl, ho, hbl⟩
    exact ⟨_, _, by rw [M.bts_length], ho.lies, hbl⟩
  · have h' : M.wide y = false := by simpa using hw
    have e : btsOf y l = [] := by unfold btsOf; rw [if_neg hw]
    rw [e]
    refine (bytes_no y A _ c h' w).mono ?_
    rintro e w' ⟨rfl, rfl⟩
    exact ⟨none, 0, rfl, Lies.nil, Below.refl _ _⟩
/-- The list behind a number that was put, or was not. -/
def putOf (l : List UInt8) (x y : Int) (n : Nat) : List UInt8 := if M.has l.length x y = true then M.put l x.toNat y.toNat n else l
theorem put_any (g : Nat) (l : List UInt8) (c : Nat) (x y : Int) (n : Nat) (hn : n < 18446744073709551616) (hz : l.length ≤ 140737488355328) (hx : -9223372036854775808 ≤ x ∧ x ≤ 9223372036854775807) (w : World) (hl : Own w g l) :
    Calls Try.prog 47 #[.slice (some ⟨g, 0, none⟩) l.length c, .int .i64 x, .int .i64 y, .int .u64 n] w fun e w' => e = .returned (.bool (M.has l.length x y)) ∧ Own w' g (putOf l x y n) ∧ w.grownBy w' (some g) := by
  unfold putOf
  by_cases h : M.has l.length x y = true
  · rw [if_pos h, h]
    obtain ⟨a, k, rfl, rfl, hk, hak⟩ := M.has_cases h
    exact put_yes g l c a k n hk hn hz hak w hl
  · have h' : M.has l.length x y = false := by simpa using h
    rw [if_neg h, h']
    refine (put_no _ _ c x y n hz hx h' w).mono ?_
    rintro e w' ⟨rfl, rfl⟩
    exact ⟨rfl, hl, World.grownBy.refl w _⟩
/-- The number that is got, or 0. -/
def getOf (l : List UInt8) (x y : Int) : Nat := if M.has l.length x y = true then M.num (M.seg l x.toNat y.toNat) else 0
theorem get_of (A : Option Addr) (z c : Nat) (l : List UInt8) (x y : Int) (ez : z = l.length) (hz : l.length ≤ 140737488355328) (hx : -9223372036854775808 ≤ x ∧ x ≤ 9223372036854775807) (w : World) (hl : Lies w A (u8s l)) :
    Calls Try.prog 63 #[.slice A z c, .int .i64 x, .int .i64 y] w fun e w' => e = .returned (.tuple #[.int .u64 (getOf l x y : Nat), .bool (M.has l.length x y)]) ∧ w = w' := by
  subst ez
  exact get_any A l c x y hz hx w hl
end Go.Proofs.Ytacognejefeboaa
