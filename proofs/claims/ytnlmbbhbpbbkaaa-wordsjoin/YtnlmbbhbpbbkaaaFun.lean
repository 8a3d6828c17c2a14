/-
  What the rest of package words, and the document's answers to it, come to: one contract a function.
-/
import Derived.Test.YtnlmbbhbpbbkaaaCon
import Derived.Deep.OwnRows
namespace Go.Proofs.Ytnlmbbhbpbbkaaa
open Go.ChangeShapes Go.WideShapes Go.ChangeAt Go.RowKit
set_option linter.unusedVariables false

/-- Does a number fit? -/
def fitsB (n : Nat) (y : Int) : Bool := M.wide y && decide (n < 256 ^ y.toNat)
theorem fits_1 (n : Nat) : ((n : Int) / 256 == 0) = fitsB n ((1 : Nat) : Int) := by
  rw [Bool.eq_iff_iff]; simp [fitsB, M.wide]; omega
theorem fits_2 (n : Nat) : ((n : Int) / 65536 == 0) = fitsB n ((2 : Nat) : Int) := by
  rw [Bool.eq_iff_iff]; simp [fitsB, M.wide]; omega
theorem fits_4 (n : Nat) : ((n : Int) / 4294967296 == 0) = fitsB n ((4 : Nat) : Int) := by
  rw [Bool.eq_iff_iff]; simp [fitsB, M.wide]; omega
theorem fits_8 (n : Nat) : ((n : Int) / 18446744073709551616 == 0) = fitsB n ((8 : Nat) : Int) := by
  rw [Bool.eq_iff_iff]; simp [fitsB, M.wide]; omega
theorem fits_any (n : Nat) (y : Int) (hn : n < 18446744073709551616) (w : World) :
    Calls Try.prog 14 #[.int .u64 n, .int .i64 y] w fun e w' => e = .returned (.bool (fitsB n y)) ∧ w = w' := by
  by_cases hw : M.wide y = true
  · obtain ⟨k, rfl, hk⟩ := M.wide_cases hw
    rcases hk with rfl | rfl | rfl | rfl
    all_goals
      go_enter Try.func14, Try.ntmps14
      go_wp2_with (go_at_call 24; refine (isWidth_any _ _).mono ?_; rintro e w' ⟨rfl, rfl⟩)
      go_ret
    · exact ⟨retB (fits_1 n), rfl⟩
    · exact ⟨retB (fits_2 n), rfl⟩
    · exact ⟨retB (fits_4 n), rfl⟩
    · exact ⟨retB (fits_8 n), rfl⟩
  · have hw' : M.wide y = false := by simpa using hw
    clear hw
    go_enter Try.func14, Try.ntmps14
    go_wp2_with (go_at_call 24; refine (isWidth_any _ _).mono ?_; rintro e w' ⟨rfl, rfl⟩)
    go_ret
    exact ⟨retB (by simp [fitsB, hw']), rfl⟩

theorem sgn_1 (n : Nat) : wrap64 (IntKind.u64.wrap ((n : Int) * 72057594037927936)) / 72057594037927936 = M.sgn (((1 : Nat) : Int).toNat) n := by
  simp only [wrap64, wrapU, M.sgn, Int.toNat_natCast, Nat.reducePow, Nat.reduceDiv]
  split <;> omega
theorem sgn_2 (n : Nat) : wrap64 (IntKind.u64.wrap ((n : Int) * 281474976710656)) / 281474976710656 = M.sgn (((2 : Nat) : Int).toNat) n := by
  simp only [wrap64, wrapU, M.sgn, Int.toNat_natCast, Nat.reducePow, Nat.reduceDiv]
  split <;> omega
theorem sgn_4 (n : Nat) : wrap64 (IntKind.u64.wrap ((n : Int) * 4294967296)) / 4294967296 = M.sgn (((4 : Nat) : Int).toNat) n := by
  simp only [wrap64, wrapU, M.sgn, Int.toNat_natCast, Nat.reducePow, Nat.reduceDiv]
  split <;> omega
theorem sgn_8 (n : Nat) (hn : n < 18446744073709551616) : wrap64 (n : Int) = M.sgn (((8 : Nat) : Int).toNat) n := by
  simp only [wrap64, M.sgn, Int.toNat_natCast, Nat.reducePow, Nat.reduceDiv]
  split <;> omega
theorem signed_any (n : Nat) (y : Int) (hn : n < 18446744073709551616) (w : World) :
    Calls Try.prog 16 #[.int .u64 n, .int .i64 y] w fun e w' => e = .returned (.int .i64 (if M.wide y = true then M.sgn y.toNat n else 0)) ∧ w = w' := by
  by_cases hw : M.wide y = true
  · rw [if_pos hw]
    obtain ⟨k, rfl, hk⟩ := M.wide_cases hw
    rcases hk with rfl | rfl | rfl | rfl
    all_goals
      go_enter Try.func16, Try.ntmps16
      go_wp2_with (go_at_call 24; refine (isWidth_any _ _).mono ?_; rintro e w' ⟨rfl, rfl⟩)
      go_ret
    · exact ⟨ret1 (sgn_1 n), rfl⟩
    · exact ⟨ret1 (sgn_2 n), rfl⟩
    · exact ⟨ret1 (sgn_4 n), rfl⟩
    · exact ⟨ret1 (sgn_8 n hn), rfl⟩
  · have hw' : M.wide y = false := by simpa using hw
    rw [if_neg hw]
    clear hw
    go_enter Try.func16, Try.ntmps16
    go_wp2_with (go_at_call 24; refine (isWidth_any _ _).mono ?_; rintro e w' ⟨rfl, rfl⟩)
    go_ret
    exact ⟨rfl, rfl⟩

theorem put_at (g z c : Nat) (l : List UInt8) (x y m : Int) (a k n : Nat) (ez : z = l.length) (ex : x = a) (ey : y = k) (em : m = n) (hk : k = 1 ∨ k = 2 ∨ k = 4 ∨ k = 8) (hn : n < 18446744073709551616) (hz : l.length ≤ 140737488355328) (h : a + k ≤ l.length) (w : World) (hl : Own w g l) :
    Calls Try.prog 13 #[.slice (some ⟨g, 0, none⟩) z c, .int .i64 x, .int .i64 y, .int .u64 m] w fun e w' => e = .returned (.bool true) ∧ Own w' g (M.put l a k n) ∧ w.grownBy w' (some g) := by
  subst ez ex ey em
  exact put_yes g l c a k n hk hn hz h w hl

theorem make22 (z : Nat) (x : Int) (hx : x = z) (h : z ≤ 140737488355328) (W : World) :
    (Instr.makeSlice 22 (.int .i64 x) (.int .i64 x)).run Try.prog W = .ok (.slice (some ⟨W.heap.size, 0, none⟩) z z) (W.alloc (.cells (madeCells #[.int .u8 0] z) 5)) := by
  subst hx
  exact run_make_row' 22 5 (.int .u8 0) 1 Try.underlying22 (by kernel_rfl) rfl .i64 .i64 z (by omega) (by omega) W
theorem own_made (z : Nat) (W : World) : Own (W.alloc (.cells (madeCells #[.int .u8 0] z) 5)) W.heap.size (List.replicate z 0) := by
  have hl : (madeCells #[Value.int .u8 0] z).toList = List.replicate z (.int .u8 0) := toList_madeCells_one _ _
  refine ⟨fun j hj => ?_, fun j hj => ?_⟩
  · rw [World.cell?_alloc_mark, ← Array.getElem?_toList, hl]
    simp at hj ⊢
    simp [hj]
  · rw [World.frozen?_alloc_mark]
    simp

theorem bytes_no (y : Int) (A : Option Addr) (z c : Nat) (h : M.wide y = false) (w : World) :
    Calls Try.prog 18 #[.int .i64 y, .slice A z c] w fun e w' => e = .returned (.slice none 0 0) ∧ w = w' := by
  go_enter Try.func18, Try.ntmps18
  go_wp2_with (go_at_call 24; refine (isWidth_any _ _).mono ?_; rintro e w' ⟨rfl, rfl⟩)
  go_ret
  exact ⟨rfl, rfl⟩

theorem bytes_step {w wr w1 : World} {k : Nat} {l : List Nat} {j : Nat} (h : j < l.length) (hg : w.heap.size < wr.heap.size) (hb : Below w.heap.size w wr) (h1 : Own w1 w.heap.size (M.put (M.part k l j) (j * k) k l[j]) ∧ wr.grownBy w1 (some w.heap.size)) :
    Own w1 w.heap.size (M.part k l (j + 1)) ∧ Below w.heap.size w w1 ∧ w.heap.size < w1.heap.size := by
  rw [M.part_succ k l j h] at h1
  exact ⟨h1.1, hb.grown h1.2 (by omega) (fun k hk => by injection hk with hk; omega), Nat.lt_of_lt_of_le hg h1.2.size⟩

set_option maxHeartbeats 400000 in
theorem bytes_yes (k : Nat) (hk : k = 1 ∨ k = 2 ∨ k = 4 ∨ k = 8) (A : Option Addr) (l : List Nat) (c : Nat) (hz : l.length ≤ 1099511627776) (hb : ∀ n ∈ l, n < 18446744073709551616) (w : World) (hl : Lies w A (u64s l)) :
    Calls Try.prog 18 #[.int .i64 k, .slice A l.length c] w fun e w' =>
      e = .returned (.slice (some ⟨w.heap.size, 0, none⟩) (l.length * k) (l.length * k)) ∧ Own w' w.heap.size (M.bts k l) ∧ Below w.heap.size w w' := by
  have HB := Lib.hid hb; clear hb
  have HL := Lib.hid hl; clear hl
  rcases hk with rfl | rfl | rfl | rfl
  · have hw1 : M.wide 1 = true := rfl
    have hmk := fun W => make22 l.length l.length (by omega) (by omega) W
    go_enter Try.func18, Try.ntmps18
    go_wp2_with (go_at_call 24; refine (isWidth_any _ _).mono ?_; rintro e w' ⟨rfl, rfl⟩)
    have hown : Own (w.alloc (.cells (madeCells #[.int .u8 0] l.length) 5)) w.heap.size (M.part 1 l 0) := by rw [M.part_zero]; rw [Nat.mul_one]; exact own_made _ _
    go_loopw [18] (fun i wr => ∃ j : Nat, j ≤ l.length ∧ i = .int .i64 j ∧ Own wr w.heap.size (M.part 1 l j) ∧ Below w.heap.size w wr ∧ w.heap.size < wr.heap.size) (fun i _ => l.length - (intOf i).toNat)
    case atStart => exact ⟨0, by omega, rfl, hown, (Below.refl _ _).alloc (Nat.le_refl _) _, by simp⟩
    case round =>
      clear hown
      obtain ⟨j, hj, rfl, ho, hbl, hsz⟩ := hrel
      by_cases hlt : j < l.length
      · obtain ⟨ad, rfl, hc⟩ := (HL.out.below hbl) (by rw [u64s_length]; omega)
        have hcj := hc j (by rw [u64s_length]; omega)
        simp only [u64s, List.getElem_map] at hcj
        have hnj := HB.out l[j] (List.getElem_mem _)
        have hpl := M.part_length 1 l j hj
        have HC := Lib.hid hc; clear hc
        have HP := Lib.hid hpl; clear hpl
        go_wp2_with fail
        refine (put_at _ _ _ _ _ _ _ (j * 1) 1 l[j] (by rw [HP.out]; omega) (by omega) rfl rfl (by omega) hnj (by have := HP.out; omega) (by have := HP.out; omega) _ ho).mono ?_
        rintro e w1 ⟨rfl, h1⟩
        have H1 := bytes_step hlt hsz hbl h1
        clear h1
        go_wp2
        go_roundw
        case rel => exact ⟨j + 1, by omega, by go_num, H1.1, H1.2.1, H1.2.2⟩
        case measure => simp [intOf]; omega
      · have e : j = l.length := by omega
        rw [e, M.part_all] at ho
        clear e
        go_wp2
        go_ret
        exact ⟨by rw [Nat.mul_one]; rfl, ho, hbl⟩
  · have hw2 : M.wide 2 = true := rfl
    have hmk := fun W => make22 (l.length * 2) (l.length * 2) (by omega) (by omega) W
    go_enter Try.func18, Try.ntmps18
    go_wp2_with (go_at_call 24; refine (isWidth_any _ _).mono ?_; rintro e w' ⟨rfl, rfl⟩)
    have hown : Own (w.alloc (.cells (madeCells #[.int .u8 0] (l.length * 2)) 5)) w.heap.size (M.part 2 l 0) := by rw [M.part_zero]; exact own_made _ _
    go_loopw [18] (fun i wr => ∃ j : Nat, j ≤ l.length ∧ i = .int .i64 j ∧ Own wr w.heap.size (M.part 2 l j) ∧ Below w.heap.size w wr ∧ w.heap.size < wr.heap.size) (fun i _ => l.length - (intOf i).toNat)
    case atStart => exact ⟨0, by omega, rfl, hown, (Below.refl _ _).alloc (Nat.le_refl _) _, by simp⟩
    case round =>
      clear hown
      obtain ⟨j, hj, rfl, ho, hbl, hsz⟩ := hrel
      by_cases hlt : j < l.length
      · obtain ⟨ad, rfl, hc⟩ := (HL.out.below hbl) (by rw [u64s_length]; omega)
        have hcj := hc j (by rw [u64s_length]; omega)
        simp only [u64s, List.getElem_map] at hcj
        have hnj := HB.out l[j] (List.getElem_mem _)
        have hpl := M.part_length 2 l j hj
        have HC := Lib.hid hc; clear hc
        have HP := Lib.hid hpl; clear hpl
        go_wp2_with fail
        refine (put_at _ _ _ _ _ _ _ (j * 2) 2 l[j] (by rw [HP.out]) (by omega) rfl rfl (by omega) hnj (by have := HP.out; omega) (by have := HP.out; omega) _ ho).mono ?_
        rintro e w1 ⟨rfl, h1⟩
        have H1 := bytes_step hlt hsz hbl h1
        clear h1
        go_wp2
        go_roundw
        case rel => exact ⟨j + 1, by omega, by go_num, H1.1, H1.2.1, H1.2.2⟩
        case measure => simp [intOf]; omega
      · have e : j = l.length := by omega
        rw [e, M.part_all] at ho
        clear e
        go_wp2
        go_ret
        exact ⟨rfl, ho, hbl⟩
  · have hw4 : M.wide 4 = true := rfl
    have hmk := fun W => make22 (l.length * 4) (l.length * 4) (by omega) (by omega) W
    go_enter Try.func18, Try.ntmps18
    go_wp2_with (go_at_call 24; refine (isWidth_any _ _).mono ?_; rintro e w' ⟨rfl, rfl⟩)
    have hown : Own (w.alloc (.cells (madeCells #[.int .u8 0] (l.length * 4)) 5)) w.heap.size (M.part 4 l 0) := by rw [M.part_zero]; exact own_made _ _
    go_loopw [18] (fun i wr => ∃ j : Nat, j ≤ l.length ∧ i = .int .i64 j ∧ Own wr w.heap.size (M.part 4 l j) ∧ Below w.heap.size w wr ∧ w.heap.size < wr.heap.size) (fun i _ => l.length - (intOf i).toNat)
    case atStart => exact ⟨0, by omega, rfl, hown, (Below.refl _ _).alloc (Nat.le_refl _) _, by simp⟩
    case round =>
      clear hown
      obtain ⟨j, hj, rfl, ho, hbl, hsz⟩ := hrel
      by_cases hlt : j < l.length
      · obtain ⟨ad, rfl, hc⟩ := (HL.out.below hbl) (by rw [u64s_length]; omega)
        have hcj := hc j (by rw [u64s_length]; omega)
        simp only [u64s, List.getElem_map] at hcj
        have hnj := HB.out l[j] (List.getElem_mem _)
        have hpl := M.part_length 4 l j hj
        have HC := Lib.hid hc; clear hc
        have HP := Lib.hid hpl; clear hpl
        go_wp2_with fail
        refine (put_at _ _ _ _ _ _ _ (j * 4) 4 l[j] (by rw [HP.out]) (by omega) rfl rfl (by omega) hnj (by have := HP.out; omega) (by have := HP.out; omega) _ ho).mono ?_
        rintro e w1 ⟨rfl, h1⟩
        have H1 := bytes_step hlt hsz hbl h1
        clear h1
        go_wp2
        go_roundw
        case rel => exact ⟨j + 1, by omega, by go_num, H1.1, H1.2.1, H1.2.2⟩
        case measure => simp [intOf]; omega
      · have e : j = l.length := by omega
        rw [e, M.part_all] at ho
        clear e
        go_wp2
        go_ret
        exact ⟨rfl, ho, hbl⟩
  · have hw8 : M.wide 8 = true := rfl
    have hmk := fun W => make22 (l.length * 8) (l.length * 8) (by omega) (by omega) W
    go_enter Try.func18, Try.ntmps18
    go_wp2_with (go_at_call 24; refine (isWidth_any _ _).mono ?_; rintro e w' ⟨rfl, rfl⟩)
    have hown : Own (w.alloc (.cells (madeCells #[.int .u8 0] (l.length * 8)) 5)) w.heap.size (M.part 8 l 0) := by rw [M.part_zero]; exact own_made _ _
    go_loopw [18] (fun i wr => ∃ j : Nat, j ≤ l.length ∧ i = .int .i64 j ∧ Own wr w.heap.size (M.part 8 l j) ∧ Below w.heap.size w wr ∧ w.heap.size < wr.heap.size) (fun i _ => l.length - (intOf i).toNat)
    case atStart => exact ⟨0, by omega, rfl, hown, (Below.refl _ _).alloc (Nat.le_refl _) _, by simp⟩
    case round =>
      clear hown
      obtain ⟨j, hj, rfl, ho, hbl, hsz⟩ := hrel
      by_cases hlt : j < l.length
      · obtain ⟨ad, rfl, hc⟩ := (HL.out.below hbl) (by rw [u64s_length]; omega)
        have hcj := hc j (by rw [u64s_length]; omega)
        simp only [u64s, List.getElem_map] at hcj
        have hnj := HB.out l[j] (List.getElem_mem _)
        have hpl := M.part_length 8 l j hj
        have HC := Lib.hid hc; clear hc
        have HP := Lib.hid hpl; clear hpl
        go_wp2_with fail
        refine (put_at _ _ _ _ _ _ _ (j * 8) 8 l[j] (by rw [HP.out]) (by omega) rfl rfl (by omega) hnj (by have := HP.out; omega) (by have := HP.out; omega) _ ho).mono ?_
        rintro e w1 ⟨rfl, h1⟩
        have H1 := bytes_step hlt hsz hbl h1
        clear h1
        go_wp2
        go_roundw
        case rel => exact ⟨j + 1, by omega, by go_num, H1.1, H1.2.1, H1.2.2⟩
        case measure => simp [intOf]; omega
      · have e : j = l.length := by omega
        rw [e, M.part_all] at ho
        clear e
        go_wp2
        go_ret
        exact ⟨rfl, ho, hbl⟩

/-- The bytes of numbers, of any width. -/
def btsOf (y : Int) (l : List Nat) : List UInt8 := if M.wide y = true then M.bts y.toNat l else []
theorem btsOf_wide {k : Nat} (hk : k = 1 ∨ k = 2 ∨ k = 4 ∨ k = 8) (l : List Nat) : btsOf (k : Int) l = M.bts k l := by
  unfold btsOf; rw [if_pos (M.wide_nat hk)]; rfl
theorem bytes_any (y : Int) (A : Option Addr) (l : List Nat) (c : Nat) (hz : l.length ≤ 1099511627776) (hb : ∀ n ∈ l, n < 18446744073709551616) (w : World) (hl : Lies w A (u64s l)) :
    Calls Try.prog 18 #[.int .i64 y, .slice A l.length c] w fun e w' =>
      ∃ A' c', e = .returned (.slice A' (btsOf y l).length c') ∧ Lies w' A' (u8s (btsOf y l)) ∧ Below w.heap.size w w' := by
  by_cases hw : M.wide y = true
  · obtain ⟨k, rfl, hk⟩ := M.wide_cases hw
    rw [btsOf_wide hk]
    refine (bytes_yes k hk A l c hz hb w hl).mono ?_
    rintro e w' ⟨rfl, ho, hbl⟩
    exact ⟨_, _, by rw [M.bts_length], ho.lies, hbl⟩
  · have h' : M.wide y = false := by simpa using hw
    have e : btsOf y l = [] := by unfold btsOf; rw [if_neg hw]
    rw [e]
    refine (bytes_no y A _ c h' w).mono ?_
    rintro e w' ⟨rfl, rfl⟩
    exact ⟨none, 0, rfl, Lies.nil, Below.refl _ _⟩
theorem conv_str (W : World) (A : Option Addr) (l : List UInt8) (c : Nat) (h : Lies W A (u8s l)) : (convert 22 9 (.slice A l.length c)).run Try.prog W = .ok (.string ⟨l.toArray⟩) W := by
  rcases Nat.eq_zero_or_pos l.length with h0 | h0
  · have : l = [] := List.eq_nil_of_length_eq_zero h0
    subst this
    rw [show ([] : List UInt8).length = 0 from rfl, run_convert_bytes_string W 22 9 5 A 0 c Try.underlying22 Try.underlying5 Try.underlying9]
    cases A with
    | none => rfl
    | some a =>
      have := run_convert_bytes_back (P := Try.prog) W 22 9 5 a c [] Try.underlying22 Try.underlying5 Try.underlying9 (fun j hj => absurd hj (by simp))
      rw [show ([] : List UInt8).length = 0 from rfl, run_convert_bytes_string W 22 9 5 (some a) 0 c Try.underlying22 Try.underlying5 Try.underlying9] at this
      exact this
  · obtain ⟨ad, rfl, hc⟩ := h (by rw [u8s_length]; exact h0)
    refine run_convert_bytes_back W 22 9 5 ad c l Try.underlying22 Try.underlying5 Try.underlying9 fun j hj => ?_
    have := hc j (by rw [u8s_length]; exact hj)
    simpa only [u8s, List.getElem_map] using this

theorem num_step (l : List UInt8) (j : Nat) (h0 : 0 < j) (hj : j ≤ l.length) (hl : l.length ≤ 8) (hp : j - 1 < (ByteArray.mk l.toArray).size) :
    IntKind.u64.wrap (IntKind.u64.wrap ((M.num (l.drop j) : Nat) * 256) + IntKind.u64.wrap ((ByteArray.mk l.toArray)[j - 1].toNat : Int)) = ((M.num (l.drop (j - 1)) : Nat) : Int) := by
  have hj' : j - 1 < l.length := by omega
  have e0 : (ByteArray.mk l.toArray)[j - 1] = l[j - 1] := rfl
  have e1 : M.num (l.drop (j - 1)) = l[j - 1].toNat + 256 * M.num (l.drop j) := by
    rw [List.drop_eq_getElem_cons hj', M.num, show j - 1 + 1 = j by omega]
  have h2 := M.num_lt (l.drop (j - 1))
  have h3 : 256 ^ (l.drop (j - 1)).length ≤ 18446744073709551616 := Nat.le_trans (Nat.pow_le_pow_right (by decide) (show _ ≤ 8 by simp; omega)) (by decide)
  rw [e0, e1, wrapU, wrapU, wrapU]
  rw [e1] at h2
  generalize l[j - 1].toNat = b at *
  generalize M.num (l.drop j) = q at *
  omega
theorem rNumber_any (l : List UInt8) (hl : l.length ≤ 8) (w : World) :
    Calls Try.prog 22 #[.string ⟨l.toArray⟩] w fun e w' => e = .returned (.int .u64 (M.num l : Nat)) ∧ w = w' := by
  go_enter Try.func22, Try.ntmps22
  go_wp2
  go_loop [3, 4] (fun n i => ∃ j : Nat, j ≤ l.length ∧ i = .int .i64 ((j : Int) - 1) ∧ n = .int .u64 (M.num (l.drop j) : Nat)) (fun _ i => (intOf i + 1).toNat)
  case atStart => exact ⟨l.length, by omega, rfl, by simp [M.num]⟩
  case round =>
    obtain ⟨j, hj, rfl, rfl⟩ := hrel
    by_cases hlt : 0 < j
    · go_wp2
      go_round
      case rel => exact ⟨j - 1, by omega, by go_num, by rw [num_step l j hlt hj hl]⟩
      case measure => simp [intOf]; omega
    · go_wp2
      go_ret
      exact ⟨ret1 (by rw [show j = 0 by omega]; rfl), rfl⟩

theorem conv_one (W : World) (v : Int) (b : UInt8) (hv : v = (b.toNat : Int)) :
    (convert 22 9 (.slice (some ⟨W.heap.size, 0, none⟩) 1 1)).run Try.prog (W.alloc (.cells #[.int .u8 v] 5)) = .ok (.string ⟨#[b]⟩) (W.alloc (.cells #[.int .u8 v] 5)) := by
  subst hv
  refine conv_str _ (some ⟨W.heap.size, 0, none⟩) [b] 1 fun _ => ⟨_, rfl, fun j hj => ?_⟩
  obtain rfl : j = 0 := by simp [u8s] at hj; omega
  show (W.alloc _).cell? ⟨W.heap.size, 0, none⟩ = _
  rw [World.cell?_alloc_mark]
  rfl
theorem retS {a b : List UInt8} (h : a = b) : Ending.returned (.string ⟨a.toArray⟩) = .returned (.string ⟨b.toArray⟩) := by rw [h]

theorem str_snoc (a : List UInt8) (b : UInt8) : ({ data := a.toArray } ++ { data := #[b] } : ByteArray) = { data := (a ++ [b]).toArray } := ByteArray.mk_append_mk a [b]

theorem rOne_any (k n : Nat) (hk : k ≤ 8) (hn : n < 18446744073709551616) (w : World) :
    Calls Try.prog 23 #[.int .i64 k, .int .u64 n] w fun e w' => e = .returned (.string ⟨(M.enc k n).toArray⟩) ∧ Below w.heap.size w w' := by
  go_enter Try.func23, Try.ntmps23
  go_wp2
  go_loopw [1, 5, 6] (fun m s i wr => ∃ j q : Nat, j ≤ k ∧ q < 18446744073709551616 ∧ i = .int .i64 j ∧ m = .int .u64 q ∧ s = .string ⟨(M.enc j n).toArray⟩ ∧ Hid (q = n / 256 ^ j) ∧ Below w.heap.size w wr) (fun _ _ i _ => k - (intOf i).toNat)
  case atStart => exact ⟨0, n, by omega, hn, rfl, rfl, rfl, by simp [Hid], Below.refl _ _⟩
  case round =>
    obtain ⟨j, q, hj, hq, rfl, rfl, rfl, HQ, hb⟩ := hrel
    by_cases hlt : j < k
    · have hle : (M.enc j n).length ≤ 8 := by rw [M.enc_length]; omega
      have hcv := fun W => conv_one W ((q : Int) % 256) (UInt8.ofNat q) (by simp)
      go_wp2
      go_roundw
      case rel => exact ⟨j + 1, q / 256, by omega, by omega, by go_num, by go_num, by rw [str_snoc, M.enc_succ, ← HQ.out], by rw [HQ.out, Nat.div_div_eq_div_mul, ← Nat.pow_succ]; exact Lib.hid rfl, hb.alloc hb.size _⟩
      case measure => simp [intOf]; omega
    · go_wp2
      go_ret
      exact ⟨retS (by rw [show k = j by omega]), hb⟩
end Go.Proofs.Ytnlmbbhbpbbkaaa
