/-
  Proved: for every input the statement WordsBack returns true, and its arguments read as before. No condition beyond those of the statement.
-/
import Derived.Test.YtnlmbbhbpbbkaaaRows
import Derived.WalkKit
import Derived.ProofKit
import Derived.OpenShut
import Derived.ShutString
import Derived.ChangeOld
import Derived.Below
import Derived.Test.YtnlmbbhbpbbkaaaEx
namespace Go.Proofs.Ytnlmbbhbpbbkaaa.wordsBack
open Go.ChangeShapes Go.WideShapes Go.ChangeAt Go.RowKit
open Go.ChangeMaps (open_string shut_string)
set_option linter.unusedVariables false

theorem own : ownKnob Try.prog.godebug = none := by kernel_rfl
theorem laidOut : laidOutB Try.prog = true := by kernel_rfl

theorem size5 (W : World) : (Go.sizeOf 5).run Try.prog W = .ok 1 W := by
  obtain ⟨i0, hi0, hz0, hz1, hz2⟩ := info_parts (P := Try.prog) (e := 5) (z := .int .u8 0) (size := 1) (bytes := 1) (by kernel_rfl)
  simp [Go.sizeOf, typeInfo, hi0, hz1]
theorem elem22 : Try.prog.elem 22 = 5 := by kernel_rfl
theorem und22 : Try.prog.underlying 22 = some (.slice (Try.prog.elem 22)) := by rw [elem22]; exact Try.underlying22
theorem u8s_take (l : List UInt8) (i : Nat) : u8s (l.take i) = (u8s l).take i := by simp [u8s, List.map_take]
theorem u8s_drop (l : List UInt8) (i : Nat) : u8s (l.drop i) = (u8s l).drop i := by simp [u8s, List.map_drop]
theorem add_add (a : Addr) (i j : Nat) : (a.add i).add j = a.add (i + j) := by
  unfold Addr.add
  by_cases hi : i = 0 <;> by_cases hj : j = 0 <;> simp [hi, hj, Nat.add_assoc]
theorem add_zero' (a : Addr) : a.add 0 = a := by unfold Addr.add; simp
/-- 'b[:i]'. -/
theorem cut_to (A : Option Addr) (n cap i : Nat) (x : Int) (hx : x = i) (hi : i ≤ cap) : ∃ A' c', (∀ W, (Instr.slice 22 (.slice A n cap) none (some (.int .i64 x)) none).run Try.prog W = .ok (.slice A' i c') W) ∧
    ∀ (W : World) (xs : List Value), Lies W A xs → Lies W A' (xs.take i) := by
  subst hx
  refine ⟨if cap = 0 then A else A.map (·.add (0 * 1)), cap, fun W => by rw [run_slice_h W 22 A n cap und22 .i64 i (by omega) (by omega), elem22, size5]; simp only [Result.andThen_ok, sliced, Int.toNat_natCast, Nat.sub_zero], fun W xs h hn => ?_⟩
  have hl : 0 < xs.length := by simp at hn; omega
  obtain ⟨ad, rfl, hc⟩ := h hl
  refine ⟨ad, by split <;> simp [add_zero'], fun j hj => ?_⟩
  rw [hc j (by simp at hj; omega)]
  simp
/-- 'b[i:]'. -/
theorem cut_from (A : Option Addr) (n cap i : Nat) (x : Int) (hx : x = i) (hi : i ≤ n) (hn : n ≤ cap) : ∃ A' c', (∀ W, (Instr.slice 22 (.slice A n cap) (some (.int .i64 x)) none none).run Try.prog W = .ok (.slice A' (n - i) c') W) ∧
    ∀ (W : World) (xs : List Value), xs.length = n → Lies W A xs → Lies W A' (xs.drop i) := by
  subst hx
  refine ⟨if cap = i then A else A.map (·.add (i * 1)), cap - i, fun W => by rw [run_slice_l W 22 A n cap und22 .i64 i (by omega) (by omega), elem22, size5]; simp only [Result.andThen_ok, sliced, Int.toNat_natCast], fun W xs hxn h hn => ?_⟩
  have hl : i < xs.length := by simp at hn; omega
  obtain ⟨ad, rfl, hc⟩ := h (by omega)
  refine ⟨ad.add i, by rw [if_neg (by omega)]; simp, fun j hj => ?_⟩
  rw [add_add, hc (i + j) (by simp at hj; omega)]
  simp
theorem row_u8c {w : World} {a : Option Addr} {len cap : Nat} {zs : List Int} (h : IsRow .u8 w a len cap zs) : len ≤ cap := by
  rcases h with ⟨rfl, rfl, rfl, rfl⟩ | ⟨x, rfl, hl, hm, hz, hc, hw⟩
  · exact Nat.le_refl _
  · exact hl
theorem to_bytes_cap (W : World) (l : List UInt8) : ∃ c W', (convert 9 22 (.string ⟨l.toArray⟩)).run Try.prog W = .ok (.slice (some ⟨W.heap.size, 0, none⟩) l.length c) W' ∧ Own W' W.heap.size l ∧ Below W.heap.size W W' ∧ W.heap.size < W'.heap.size ∧ l.length ≤ c := by
  obtain ⟨c, W', h1, h2⟩ := to_bytes W l
  have hs : (ByteArray.mk l.toArray).size = l.length := by simp [ByteArray.size]
  refine ⟨c, W', h1, h2.1, h2.2.1, h2.2.2, ?_⟩
  rw [run_bytes_of_string W 9 22 5 _ Try.underlying9 Try.underlying22 Try.underlying5, hs] at h1
  injection h1 with h1 _
  injection h1 with _ _ h1
  rw [← h1]
  exact grownCap_ge _ _ _ _
theorem put_take (l : List UInt8) (a k n : Nat) (h : a + k ≤ l.length) : (M.put l a k n).take a = l.take a := by
  unfold M.put
  have h1 : (l.take a).length = a := by simp; omega
  rw [List.take_append_of_le_length (by omega), List.take_of_length_le (by omega)]
theorem put_drop (l : List UInt8) (a k n : Nat) (h : a + k ≤ l.length) : (M.put l a k n).drop (a + k) = l.drop (a + k) := by
  unfold M.put
  have h1 : (l.take a).length = a := by simp; omega
  rw [← List.append_assoc, List.drop_append_of_le_length (by simp [h1, M.enc_length]), List.drop_of_length_le (by simp [h1, M.enc_length]), List.nil_append]
theorem get_back (A : Option Addr) (z c : Nat) (l : List UInt8) (x y : Int) (a k n : Nat) (ez : z = l.length) (ex : x = a) (ey : y = k) (hk : k = 1 ∨ k = 2 ∨ k = 4 ∨ k = 8) (hz : l.length ≤ 140737488355328) (h : a + k ≤ l.length) (w : World) (hl : Lies w A (u8s (M.put l a k n))) :
    Calls Try.prog 10 #[.slice A z c, .int .i64 x, .int .i64 y] w fun e w' => e = .returned (.tuple #[.int .u64 (n % 256 ^ k : Nat), .bool true]) ∧ w = w' := by
  have e := M.put_length l a k n h
  subst ez ex ey
  have := get_yes A (M.put l a k n) c a k hk (by rw [e]; exact hz) (by rw [e]; exact h) w hl
  rw [e, M.seg_put l a k n h, M.num_enc] at this
  exact this
theorem back_mod (n k xx : Nat) (P : Int) (hP : P = (256 ^ k : Nat)) (h : xx = n % 256 ^ k) : ((xx : Int) == (n : Int) % P) = true := by
  subst hP h
  rw [beq_iff_eq]
  exact Int.natCast_emod n (256 ^ k)
theorem back_fit (n k xx : Nat) (hk : k = 1 ∨ k = 2 ∨ k = 4 ∨ k = 8) (h : xx = n % 256 ^ k) : ((xx : Int) == (n : Int)) = fitsB n (k : Int) := by
  subst h
  rw [fitsB, M.wide_nat hk, Bool.true_and]
  exact fits_mod n k
theorem back_all (n xx : Nat) (hn : n < 18446744073709551616) (h : xx = n % 256 ^ 8) : ((xx : Int) == (n : Int)) = true := by
  rw [beq_iff_eq, h, Nat.mod_eq_of_lt (Nat.lt_of_lt_of_le hn (by decide))]
theorem below_drewN' {B : Nat} {a w : World} (h : Below B a w) (n : Nat) : Below B a (w.drewN n) := ⟨h.os, h.tape, h.output, h.size, h.block⟩

/-! The walk. -/
set_option maxHeartbeats 3200000 in
theorem walk (a0 : Option Addr) (len0 cap0 : Nat) (z0 : List Int) (a1 : Int) (a2 : Int) (a3 : Int) (w : World) (w0 : IsRow .u8 w a0 len0 cap0 z0) (w1 : (Lit.int .u8 a1).wf = true) (w2 : (Lit.int .u8 a2).wf = true) (w3 : (Lit.int .u64 a3).wf = true) :
    Calls Try.prog 5 #[.slice a0 len0 cap0, .int .u8 a1, .int .u8 a2, .int .u64 a3] w fun e w' => e = .returned (.bool true) ∧ Below w.heap.size w w' := by
  have hlc := row_u8c w0
  obtain ⟨l, rfl, hl⟩ := row_u8 w0
  obtain ⟨a, ha, rfl⟩ := u8_nat w1
  obtain ⟨kk, hkk, rfl⟩ := u8_nat w2
  obtain ⟨n, hn, rfl⟩ := u64_nat w3
  clear w0 w1 w2 w3
  by_cases h200 : l.length ≤ 200
  · have hz : l.length ≤ 140737488355328 := by omega
    have HL := Lib.hid hl; clear hl
    rcases (show kk % 4 = 0 ∨ kk % 4 = 1 ∨ kk % 4 = 2 ∨ kk % 4 = 3 by omega) with hr | hr | hr | hr
    · have hm : (kk : Int) % 4 = 0 := by omega
      have HM := Lib.hid hr; clear hr
      by_cases hfit : a + 1 ≤ l.length
      · go_enter Try.func5, Try.ntmps5
        go_wp2_with fail
        refine (awake_any _).mono ?_
        rintro e w1 ⟨rfl, b1⟩
        have hl1 := HL.out.below b1
        have hcv := conv_str w1 a0 l cap0 hl1
        obtain ⟨c2, w2, hbs, ho2, b2, s2, hc2⟩ := to_bytes_cap w1 l
        have HL1 := Lib.hid hl1; clear hl1
        have B1 := Lib.hid b1; clear b1
        have B2 := Lib.hid b2; clear b2
        go_wp2_with fail
        clear hcv hbs
        refine (put_at _ _ _ l _ _ _ a 1 n rfl rfl rfl rfl (by omega) hn hz hfit _ ho2).mono ?_
        rintro e w3 ⟨rfl, ho3, g3⟩
        have b13 : Below w1.heap.size w1 w3 := B2.out.trans (only_below g3 (Nat.le_refl _) (Nat.le_of_lt s2))
        have hl3 := (HL1.out.below b13)
        have B3 := Lib.hid (B1.out.trans (b13.mono B1.out.size)); clear b13 B1 B2 g3 ho2
        have hpl := M.put_length l a 1 n hfit
        obtain ⟨A1, d1, hs1, hy1⟩ := cut_to (some ⟨w1.heap.size, 0, none⟩) l.length c2 a a rfl (by omega)
        obtain ⟨A2, d2, hs2, hy2⟩ := cut_to a0 l.length cap0 a a rfl (by omega)
        obtain ⟨A3, d3, hs3, hy3⟩ := cut_from (some ⟨w1.heap.size, 0, none⟩) l.length c2 (a + 1) ((a : Int) + 1) (by omega) hfit (by omega)
        obtain ⟨A4, d4, hs4, hy4⟩ := cut_from a0 l.length cap0 (a + 1) ((a : Int) + 1) (by omega) hfit (by omega)
        have hq1 := hy1 _ _ ho3.lies
        have hq2 := hy2 _ _ hl3
        have hq3 := hy3 _ _ (by rw [u8s_length, hpl]) ho3.lies
        have hq4 := hy4 _ _ (by rw [u8s_length]) hl3
        rw [← u8s_take, put_take l a 1 n hfit] at hq1
        rw [← u8s_take] at hq2
        rw [← u8s_drop, put_drop l a 1 n hfit] at hq3
        rw [← u8s_drop] at hq4
        have hv1 := fun q => conv_at (w3.drewN q) A1 a (l.take a) d1 (by simp; omega) hq1
        have hv2 := fun q => conv_at (w3.drewN q) A2 a (l.take a) d2 (by simp; omega) hq2
        have hv3 := fun q => conv_at (w3.drewN q) A3 (l.length - (a + 1)) (l.drop (a + 1)) d3 (by simp) hq3
        have hv4 := fun q => conv_at (w3.drewN q) A4 (l.length - (a + 1)) (l.drop (a + 1)) d4 (by simp) hq4
        have HPL := Lib.hid hpl; clear hpl hq1 hq2 hq3 hq4 hy1 hy2 hy3 hy4 hl3 HL1
        obtain ⟨p, hp⟩ : ∃ p, p = l.take a := ⟨_, rfl⟩
        obtain ⟨r, hr⟩ : ∃ r, r = l.drop (a + 1) := ⟨_, rfl⟩
        rw [← hp] at hv1 hv2
        rw [← hr] at hv3 hv4
        clear hp hr
        go_wp2_with fail
        refine (get_back _ _ _ l _ _ a 1 n rfl rfl rfl (by omega) hz hfit _ ho3.lies).mono ?_
        rintro e w' ⟨rfl, rfl⟩
        obtain ⟨xx, hxx⟩ : ∃ xx : Nat, xx = n % 256 ^ 1 := ⟨_, rfl⟩
        rw [← hxx]
        have HX := Lib.hid hxx; clear hxx
        have HO := Lib.hid ho3; clear ho3
        go_wp2_with fail
        have hwr : IntKind.i64.wrap ((a : Int) + 1) = (a : Int) + 1 := IntWalk.i64_in _ (by omega)
        go_quiet (fail)
        clear hwr
        have hx1 := back_mod n 1 xx 256 (by decide) HX.out
        have hx2 : ((xx : Int) == (n : Int)) = fitsB n 1 := back_fit n 1 xx (by omega) HX.out
        have HX2 := Lib.hid hx2; clear hx2
        go_wp2_with fail
        refine (fits_any n 1 hn _).mono ?_
        rintro e w' ⟨rfl, rfl⟩
        have hx2 := HX2.out
        go_wp2
        go_ret
        exact ⟨rfl, below_drewN' B3.out _⟩
      · have hn1 := M.has_not hfit
        go_enter Try.func5, Try.ntmps5
        go_wp2_with fail
        refine (awake_any _).mono ?_
        rintro e w1 ⟨rfl, b1⟩
        have hl1 := HL.out.below b1
        have hcv := conv_str w1 a0 l cap0 hl1
        obtain ⟨c2, w2, hbs, ho2, b2, s2⟩ := to_bytes w1 l
        have hcv2 := conv_str w2 a0 l cap0 (hl1.below b2)
        have hcv3 := conv_str w2 _ l c2 ho2.lies
        have B2 := Lib.hid (b1.trans (b2.mono b1.size)); clear b1 b2 hl1
        have HN1 := Lib.hid hn1; clear hn1
        go_wp2_with fail
        refine (put_no _ _ _ _ _ n hz (by omega) HN1.out _).mono ?_
        rintro e w' ⟨rfl, rfl⟩
        go_wp2
        go_ret
        exact ⟨rfl, B2.out⟩
    · have hm : (kk : Int) % 4 = 1 := by omega
      have HM := Lib.hid hr; clear hr
      by_cases hfit : a + 2 ≤ l.length
      · go_enter Try.func5, Try.ntmps5
        go_wp2_with fail
        refine (awake_any _).mono ?_
        rintro e w1 ⟨rfl, b1⟩
        have hl1 := HL.out.below b1
        have hcv := conv_str w1 a0 l cap0 hl1
        obtain ⟨c2, w2, hbs, ho2, b2, s2, hc2⟩ := to_bytes_cap w1 l
        have HL1 := Lib.hid hl1; clear hl1
        have B1 := Lib.hid b1; clear b1
        have B2 := Lib.hid b2; clear b2
        go_wp2_with fail
        clear hcv hbs
        refine (put_at _ _ _ l _ _ _ a 2 n rfl rfl rfl rfl (by omega) hn hz hfit _ ho2).mono ?_
        rintro e w3 ⟨rfl, ho3, g3⟩
        have b13 : Below w1.heap.size w1 w3 := B2.out.trans (only_below g3 (Nat.le_refl _) (Nat.le_of_lt s2))
        have hl3 := (HL1.out.below b13)
        have B3 := Lib.hid (B1.out.trans (b13.mono B1.out.size)); clear b13 B1 B2 g3 ho2
        have hpl := M.put_length l a 2 n hfit
        obtain ⟨A1, d1, hs1, hy1⟩ := cut_to (some ⟨w1.heap.size, 0, none⟩) l.length c2 a a rfl (by omega)
        obtain ⟨A2, d2, hs2, hy2⟩ := cut_to a0 l.length cap0 a a rfl (by omega)
        obtain ⟨A3, d3, hs3, hy3⟩ := cut_from (some ⟨w1.heap.size, 0, none⟩) l.length c2 (a + 2) ((a : Int) + 2) (by omega) hfit (by omega)
        obtain ⟨A4, d4, hs4, hy4⟩ := cut_from a0 l.length cap0 (a + 2) ((a : Int) + 2) (by omega) hfit (by omega)
        have hq1 := hy1 _ _ ho3.lies
        have hq2 := hy2 _ _ hl3
        have hq3 := hy3 _ _ (by rw [u8s_length, hpl]) ho3.lies
        have hq4 := hy4 _ _ (by rw [u8s_length]) hl3
        rw [← u8s_take, put_take l a 2 n hfit] at hq1
        rw [← u8s_take] at hq2
        rw [← u8s_drop, put_drop l a 2 n hfit] at hq3
        rw [← u8s_drop] at hq4
        have hv1 := fun q => conv_at (w3.drewN q) A1 a (l.take a) d1 (by simp; omega) hq1
        have hv2 := fun q => conv_at (w3.drewN q) A2 a (l.take a) d2 (by simp; omega) hq2
        have hv3 := fun q => conv_at (w3.drewN q) A3 (l.length - (a + 2)) (l.drop (a + 2)) d3 (by simp) hq3
        have hv4 := fun q => conv_at (w3.drewN q) A4 (l.length - (a + 2)) (l.drop (a + 2)) d4 (by simp) hq4
        have HPL := Lib.hid hpl; clear hpl hq1 hq2 hq3 hq4 hy1 hy2 hy3 hy4 hl3 HL1
        obtain ⟨p, hp⟩ : ∃ p, p = l.take a := ⟨_, rfl⟩
        obtain ⟨r, hr⟩ : ∃ r, r = l.drop (a + 2) := ⟨_, rfl⟩
        rw [← hp] at hv1 hv2
        rw [← hr] at hv3 hv4
        clear hp hr
        go_wp2_with fail
        refine (get_back _ _ _ l _ _ a 2 n rfl rfl rfl (by omega) hz hfit _ ho3.lies).mono ?_
        rintro e w' ⟨rfl, rfl⟩
        obtain ⟨xx, hxx⟩ : ∃ xx : Nat, xx = n % 256 ^ 2 := ⟨_, rfl⟩
        rw [← hxx]
        have HX := Lib.hid hxx; clear hxx
        have HO := Lib.hid ho3; clear ho3
        go_wp2_with fail
        have hwr : IntKind.i64.wrap ((a : Int) + 2) = (a : Int) + 2 := IntWalk.i64_in _ (by omega)
        go_quiet (fail)
        clear hwr
        have hx1 := back_mod n 2 xx 65536 (by decide) HX.out
        have hx2 : ((xx : Int) == (n : Int)) = fitsB n 2 := back_fit n 2 xx (by omega) HX.out
        have HX2 := Lib.hid hx2; clear hx2
        go_wp2_with fail
        refine (fits_any n 2 hn _).mono ?_
        rintro e w' ⟨rfl, rfl⟩
        have hx2 := HX2.out
        go_wp2
        go_ret
        exact ⟨rfl, below_drewN' B3.out _⟩
      · have hn1 := M.has_not hfit
        go_enter Try.func5, Try.ntmps5
        go_wp2_with fail
        refine (awake_any _).mono ?_
        rintro e w1 ⟨rfl, b1⟩
        have hl1 := HL.out.below b1
        have hcv := conv_str w1 a0 l cap0 hl1
        obtain ⟨c2, w2, hbs, ho2, b2, s2⟩ := to_bytes w1 l
        have hcv2 := conv_str w2 a0 l cap0 (hl1.below b2)
        have hcv3 := conv_str w2 _ l c2 ho2.lies
        have B2 := Lib.hid (b1.trans (b2.mono b1.size)); clear b1 b2 hl1
        have HN1 := Lib.hid hn1; clear hn1
        go_wp2_with fail
        refine (put_no _ _ _ _ _ n hz (by omega) HN1.out _).mono ?_
        rintro e w' ⟨rfl, rfl⟩
        go_wp2
        go_ret
        exact ⟨rfl, B2.out⟩
    · have hm : (kk : Int) % 4 = 2 := by omega
      have HM := Lib.hid hr; clear hr
      by_cases hfit : a + 4 ≤ l.length
      · go_enter Try.func5, Try.ntmps5
        go_wp2_with fail
        refine (awake_any _).mono ?_
        rintro e w1 ⟨rfl, b1⟩
        have hl1 := HL.out.below b1
        have hcv := conv_str w1 a0 l cap0 hl1
        obtain ⟨c2, w2, hbs, ho2, b2, s2, hc2⟩ := to_bytes_cap w1 l
        have HL1 := Lib.hid hl1; clear hl1
        have B1 := Lib.hid b1; clear b1
        have B2 := Lib.hid b2; clear b2
        go_wp2_with fail
        clear hcv hbs
        refine (put_at _ _ _ l _ _ _ a 4 n rfl rfl rfl rfl (by omega) hn hz hfit _ ho2).mono ?_
        rintro e w3 ⟨rfl, ho3, g3⟩
        have b13 : Below w1.heap.size w1 w3 := B2.out.trans (only_below g3 (Nat.le_refl _) (Nat.le_of_lt s2))
        have hl3 := (HL1.out.below b13)
        have B3 := Lib.hid (B1.out.trans (b13.mono B1.out.size)); clear b13 B1 B2 g3 ho2
        have hpl := M.put_length l a 4 n hfit
        obtain ⟨A1, d1, hs1, hy1⟩ := cut_to (some ⟨w1.heap.size, 0, none⟩) l.length c2 a a rfl (by omega)
        obtain ⟨A2, d2, hs2, hy2⟩ := cut_to a0 l.length cap0 a a rfl (by omega)
        obtain ⟨A3, d3, hs3, hy3⟩ := cut_from (some ⟨w1.heap.size, 0, none⟩) l.length c2 (a + 4) ((a : Int) + 4) (by omega) hfit (by omega)
        obtain ⟨A4, d4, hs4, hy4⟩ := cut_from a0 l.length cap0 (a + 4) ((a : Int) + 4) (by omega) hfit (by omega)
        have hq1 := hy1 _ _ ho3.lies
        have hq2 := hy2 _ _ hl3
        have hq3 := hy3 _ _ (by rw [u8s_length, hpl]) ho3.lies
        have hq4 := hy4 _ _ (by rw [u8s_length]) hl3
        rw [← u8s_take, put_take l a 4 n hfit] at hq1
        rw [← u8s_take] at hq2
        rw [← u8s_drop, put_drop l a 4 n hfit] at hq3
        rw [← u8s_drop] at hq4
        have hv1 := fun q => conv_at (w3.drewN q) A1 a (l.take a) d1 (by simp; omega) hq1
        have hv2 := fun q => conv_at (w3.drewN q) A2 a (l.take a) d2 (by simp; omega) hq2
        have hv3 := fun q => conv_at (w3.drewN q) A3 (l.length - (a + 4)) (l.drop (a + 4)) d3 (by simp) hq3
        have hv4 := fun q => conv_at (w3.drewN q) A4 (l.length - (a + 4)) (l.drop (a + 4)) d4 (by simp) hq4
        have HPL := Lib.hid hpl; clear hpl hq1 hq2 hq3 hq4 hy1 hy2 hy3 hy4 hl3 HL1
        obtain ⟨p, hp⟩ : ∃ p, p = l.take a := ⟨_, rfl⟩
        obtain ⟨r, hr⟩ : ∃ r, r = l.drop (a + 4) := ⟨_, rfl⟩
        rw [← hp] at hv1 hv2
        rw [← hr] at hv3 hv4
        clear hp hr
        go_wp2_with fail
        refine (get_back _ _ _ l _ _ a 4 n rfl rfl rfl (by omega) hz hfit _ ho3.lies).mono ?_
        rintro e w' ⟨rfl, rfl⟩
        obtain ⟨xx, hxx⟩ : ∃ xx : Nat, xx = n % 256 ^ 4 := ⟨_, rfl⟩
        rw [← hxx]
        have HX := Lib.hid hxx; clear hxx
        have HO := Lib.hid ho3; clear ho3
        go_wp2_with fail
        have hwr : IntKind.i64.wrap ((a : Int) + 4) = (a : Int) + 4 := IntWalk.i64_in _ (by omega)
        go_quiet (fail)
        clear hwr
        have hx1 := back_mod n 4 xx 4294967296 (by decide) HX.out
        have hx2 : ((xx : Int) == (n : Int)) = fitsB n 4 := back_fit n 4 xx (by omega) HX.out
        have HX2 := Lib.hid hx2; clear hx2
        go_wp2_with fail
        refine (fits_any n 4 hn _).mono ?_
        rintro e w' ⟨rfl, rfl⟩
        have hx2 := HX2.out
        go_wp2
        go_ret
        exact ⟨rfl, below_drewN' B3.out _⟩
      · have hn1 := M.has_not hfit
        go_enter Try.func5, Try.ntmps5
        go_wp2_with fail
        refine (awake_any _).mono ?_
        rintro e w1 ⟨rfl, b1⟩
        have hl1 := HL.out.below b1
        have hcv := conv_str w1 a0 l cap0 hl1
        obtain ⟨c2, w2, hbs, ho2, b2, s2⟩ := to_bytes w1 l
        have hcv2 := conv_str w2 a0 l cap0 (hl1.below b2)
        have hcv3 := conv_str w2 _ l c2 ho2.lies
        have B2 := Lib.hid (b1.trans (b2.mono b1.size)); clear b1 b2 hl1
        have HN1 := Lib.hid hn1; clear hn1
        go_wp2_with fail
        refine (put_no _ _ _ _ _ n hz (by omega) HN1.out _).mono ?_
        rintro e w' ⟨rfl, rfl⟩
        go_wp2
        go_ret
        exact ⟨rfl, B2.out⟩
    · have hm : (kk : Int) % 4 = 3 := by omega
      have HM := Lib.hid hr; clear hr
      by_cases hfit : a + 8 ≤ l.length
      · go_enter Try.func5, Try.ntmps5
        go_wp2_with fail
        refine (awake_any _).mono ?_
        rintro e w1 ⟨rfl, b1⟩
        have hl1 := HL.out.below b1
        have hcv := conv_str w1 a0 l cap0 hl1
        obtain ⟨c2, w2, hbs, ho2, b2, s2, hc2⟩ := to_bytes_cap w1 l
        have HL1 := Lib.hid hl1; clear hl1
        have B1 := Lib.hid b1; clear b1
        have B2 := Lib.hid b2; clear b2
        go_wp2_with fail
        clear hcv hbs
        refine (put_at _ _ _ l _ _ _ a 8 n rfl rfl rfl rfl (by omega) hn hz hfit _ ho2).mono ?_
        rintro e w3 ⟨rfl, ho3, g3⟩
        have b13 : Below w1.heap.size w1 w3 := B2.out.trans (only_below g3 (Nat.le_refl _) (Nat.le_of_lt s2))
        have hl3 := (HL1.out.below b13)
        have B3 := Lib.hid (B1.out.trans (b13.mono B1.out.size)); clear b13 B1 B2 g3 ho2
        have hpl := M.put_length l a 8 n hfit
        obtain ⟨A1, d1, hs1, hy1⟩ := cut_to (some ⟨w1.heap.size, 0, none⟩) l.length c2 a a rfl (by omega)
        obtain ⟨A2, d2, hs2, hy2⟩ := cut_to a0 l.length cap0 a a rfl (by omega)
        obtain ⟨A3, d3, hs3, hy3⟩ := cut_from (some ⟨w1.heap.size, 0, none⟩) l.length c2 (a + 8) ((a : Int) + 8) (by omega) hfit (by omega)
        obtain ⟨A4, d4, hs4, hy4⟩ := cut_from a0 l.length cap0 (a + 8) ((a : Int) + 8) (by omega) hfit (by omega)
        have hq1 := hy1 _ _ ho3.lies
        have hq2 := hy2 _ _ hl3
        have hq3 := hy3 _ _ (by rw [u8s_length, hpl]) ho3.lies
        have hq4 := hy4 _ _ (by rw [u8s_length]) hl3
        rw [← u8s_take, put_take l a 8 n hfit] at hq1
        rw [← u8s_take] at hq2
        rw [← u8s_drop, put_drop l a 8 n hfit] at hq3
        rw [← u8s_drop] at hq4
        have hv1 := fun q => conv_at (w3.drewN q) A1 a (l.take a) d1 (by simp; omega) hq1
        have hv2 := fun q => conv_at (w3.drewN q) A2 a (l.take a) d2 (by simp; omega) hq2
        have hv3 := fun q => conv_at (w3.drewN q) A3 (l.length - (a + 8)) (l.drop (a + 8)) d3 (by simp) hq3
        have hv4 := fun q => conv_at (w3.drewN q) A4 (l.length - (a + 8)) (l.drop (a + 8)) d4 (by simp) hq4
        have HPL := Lib.hid hpl; clear hpl hq1 hq2 hq3 hq4 hy1 hy2 hy3 hy4 hl3 HL1
        obtain ⟨p, hp⟩ : ∃ p, p = l.take a := ⟨_, rfl⟩
        obtain ⟨r, hr⟩ : ∃ r, r = l.drop (a + 8) := ⟨_, rfl⟩
        rw [← hp] at hv1 hv2
        rw [← hr] at hv3 hv4
        clear hp hr
        go_wp2_with fail
        refine (get_back _ _ _ l _ _ a 8 n rfl rfl rfl (by omega) hz hfit _ ho3.lies).mono ?_
        rintro e w' ⟨rfl, rfl⟩
        obtain ⟨xx, hxx⟩ : ∃ xx : Nat, xx = n % 256 ^ 8 := ⟨_, rfl⟩
        rw [← hxx]
        have HX := Lib.hid hxx; clear hxx
        have HO := Lib.hid ho3; clear ho3
        go_wp2_with fail
        have hwr : IntKind.i64.wrap ((a : Int) + 8) = (a : Int) + 8 := IntWalk.i64_in _ (by omega)
        go_quiet (fail)
        clear hwr
        have hx2 := back_all n xx hn HX.out
        go_wp2
        go_ret
        exact ⟨rfl, below_drewN' B3.out _⟩
      · have hn1 := M.has_not hfit
        go_enter Try.func5, Try.ntmps5
        go_wp2_with fail
        refine (awake_any _).mono ?_
        rintro e w1 ⟨rfl, b1⟩
        have hl1 := HL.out.below b1
        have hcv := conv_str w1 a0 l cap0 hl1
        obtain ⟨c2, w2, hbs, ho2, b2, s2⟩ := to_bytes w1 l
        have hcv2 := conv_str w2 a0 l cap0 (hl1.below b2)
        have hcv3 := conv_str w2 _ l c2 ho2.lies
        have B2 := Lib.hid (b1.trans (b2.mono b1.size)); clear b1 b2 hl1
        have HN1 := Lib.hid hn1; clear hn1
        go_wp2_with fail
        refine (put_no _ _ _ _ _ n hz (by omega) HN1.out _).mono ?_
        rintro e w' ⟨rfl, rfl⟩
        go_wp2
        go_ret
        exact ⟨rfl, B2.out⟩
  · have hd : decide ((l.length : Int) > 200) = true := by simp; omega
    go_enter Try.func5, Try.ntmps5
    go_wp2_with fail
    refine (awake_any _).mono ?_
    rintro e w1 ⟨rfl, b1⟩
    go_wp2
    go_ret
    exact ⟨rfl, b1⟩

/-! The row's step. -/
set_option maxRecDepth 100000 in
theorem lifted (os : Os) (started : os.Started) (H : Type) (enc : TypeId × Value → H) :
    ReturnsInHanded {} Try.checked os 5 .any (Rows.wordsBackSpec.pre6 enc Try.prog Try.f5 Rows.wordsBackRow.domain false) (Rows.wordsBackSpec.post enc Try.prog Try.f5 false true false false) := by
  refine returnsInHanded_of_change (C := Try.checked) own started (by kernel_rfl) Try.func5
    (ChangeSpec.witness6 (enc := enc) (C := Try.checked) false ⟨#[], #[.slice none 0 0, .int .u8 0, .int .u8 0, .int .u64 0], []⟩ 8 (by kernel_rfl) (by kernel_rfl) (by kernel_rfl) (by kernel_rfl)) ?_
  intro W base args ds gs before hval0 hW hcnd _
  have hval : ∀ (j : Nat) t v, Try.f5.params[j]? = some t → args[j]? = some v → Value.okWide Try.prog W .any base t v := hval0
  have hW' := hW
  obtain ⟨p, q, hA0, hV, rfl, hfz, hnd⟩ := hW
  have hA : DataW.TrodAll enc Try.prog W 0 (fun _ => true) true Try.f5.params.toList args.toList ds p := hA0
  rw [Try.params5] at hA hval
  obtain ⟨v0, vs0, d0, ds0, p0, q0, hargs, rfl, rfl, h0, r0⟩ := trodAll_cons hA
  obtain ⟨v1, vs1, d1, ds1, p1, q1, rfl, rfl, rfl, h1, r1⟩ := trodAll_cons r0
  obtain ⟨v2, vs2, d2, ds2, p2, q2, rfl, rfl, rfl, h2, r2⟩ := trodAll_cons r1
  obtain ⟨v3, vs3, d3, ds3, p3, q3, rfl, rfl, rfl, h3, r3⟩ := trodAll_cons r2
  obtain ⟨rfl, rfl, rfl⟩ := trodAll_nil r3
  obtain rfl : args = #[v0, v1, v2, v3] := by cases args; simp_all
  obtain ⟨rfl, rfl⟩ := trodVars_none hV
  obtain ⟨a0, len0, cap0, rfl⟩ := okWide_slice Try.underlying22 (hval 0 22 v0 rfl rfl)
  have k0 := h0
  have lt0 : ∀ x ∈ p0, x.block < W.heap.size := by obtain ⟨m, hm⟩ := k0; exact DataW.trod_lt m _ _ _ hm
  obtain ⟨z0, w0⟩ : ∃ zs, IsRow .u8 W a0 len0 cap0 zs := by
    obtain ⟨fuel, hf⟩ := h0
    rcases open_ints Try.underlying22 Try.underlying5 (by kernel_rfl) hf with ⟨hcs, _⟩ | ⟨x, l, c, zs, hcs, _, hl, hm, hz, _, hcell, hwz⟩
    · simp [Value.cells] at hcs
      obtain ⟨rfl, rfl, rfl⟩ := hcs
      exact ⟨[], .inl ⟨rfl, rfl, rfl, rfl⟩⟩
    · simp [Value.cells] at hcs
      obtain ⟨rfl, rfl, rfl⟩ := hcs
      exact ⟨zs, .inr ⟨_, rfl, hl, hm, by simpa using hz, hcell, hwz⟩⟩
  obtain ⟨a1, rfl, rfl, rfl, w1⟩ := open_int Try.underlying5 (hval 1 5 v1 rfl rfl) h1
  obtain ⟨a2, rfl, rfl, rfl, w2⟩ := open_int Try.underlying5 (hval 2 5 v2 rfl rfl) h2
  obtain ⟨a3, rfl, rfl, rfl, w3⟩ := open_int Try.underlying23 (hval 3 23 v3 rfl rfl) h3
  clear hA0 hval0
  refine (walk a0 len0 cap0 z0 a1 a2 a3 W w0 w1 w2 w3).mono fun e W' ⟨he, bel⟩ => ?_
  subst he
  exact ⟨_, rfl, _, _, _, [], _, [], hW', trodAll_mk1 (shut_bool Try.underlying4 _), (trodAll_cons_mk (Below.trod laidOut (by kernel_rfl) (of_decide_eq_true (by kernel_rfl)) k0 bel lt0) (trodAll_cons_mk (shut_int Try.underlying5 w1) (trodAll_cons_mk (shut_int Try.underlying5 w2) (trodAll_cons_mk (shut_int Try.underlying23 w3) trodAll_mk0)))), rfl, bel.frame _, fun h => by cases h⟩

theorem over : Rows.wordsBackRow.holds Try.pinned (OpenSpec.ofChange Rows.wordsBackSpec) :=
  OpenClaim.holds_of_wide 5 Try.f5 rfl rfl rfl rfl rfl rfl rfl ⟨rfl, rfl, rfl, rfl, rfl⟩ rfl rfl rfl rfl rfl (by kernel_rfl) Try.func5 (by kernel_rfl)
    (of_decide_eq_true (by kernel_rfl)) (by unfold Func.isWrapper; first | (rw [if_pos (by decide +kernel)]; kernel_rfl) | (rw [if_neg (by decide +kernel)]; exact ⟨rfl, rfl⟩))
    (fun os started H enc _ => lifted os started H enc)

/-- The statement. -/
theorem proved : Rows.WordsBackSaid := over
#print axioms proved
end Go.Proofs.Ytnlmbbhbpbbkaaa.wordsBack
