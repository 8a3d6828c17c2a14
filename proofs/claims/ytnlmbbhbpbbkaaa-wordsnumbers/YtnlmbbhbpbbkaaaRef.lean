/-
  What the document's answers to package words come to: one contract a function.
-/
import Derived.Test.YtnlmbbhbpbbkaaaFun
import Derived.Deep.QuietTactic
import Derived.RegionTactic
import Derived.Deep.RegionWith
namespace Go.Proofs.Ytnlmbbhbpbbkaaa
open Go.ChangeShapes Go.WideShapes Go.ChangeAt Go.RowKit
set_option linter.unusedVariables false

theorem extract_seg (l : List UInt8) (a k : Nat) : (ByteArray.mk l.toArray).extract a (a + k) = ByteArray.mk (M.seg l a k).toArray := by
  rw [ByteArray.extract_mk, show a + k - a = k by omega]; rfl

theorem rGet_any (l : List UInt8) (x y : Int) (hz : l.length ≤ 140737488355328) (hx : -9223372036854775808 ≤ x ∧ x ≤ 9223372036854775807) (w : World) :
    Calls Try.prog 11 #[.string ⟨l.toArray⟩, .int .i64 x, .int .i64 y] w fun e w' =>
      e = .returned (.tuple #[.int .u64 (if M.has l.length x y = true then M.num (M.seg l x.toNat y.toNat) else 0 : Nat), .bool (M.has l.length x y)]) ∧ w = w' := by
  by_cases h : M.has l.length x y = true
  · rw [if_pos h, h]
    obtain ⟨a, k, rfl, rfl, hk, hak⟩ := M.has_cases h
    have hk8 : k ≤ 8 := by omega
    have HK := Lib.hid hk; clear hk
    go_enter Try.func11, Try.ntmps11
    go_wp2_with (go_at_call 21; refine (rHas_any _ _ _ hz (by omega) _).mono ?_; rintro e w' ⟨rfl, rfl⟩)
    rw [extract_seg]
    refine (rNumber_any _ (by rw [M.seg_length l a k hak]; exact hk8) _).mono ?_
    rintro e w' ⟨rfl, rfl⟩
    go_wp2
    go_ret2
    exact ⟨rfl, rfl⟩
  · have h' : M.has l.length x y = false := by simpa using h
    rw [if_neg h, h']
    clear h
    go_enter Try.func11, Try.ntmps11
    go_wp2_with (go_at_call 21; refine (rHas_any _ _ _ hz hx _).mono ?_; rintro e w' ⟨rfl, rfl⟩)
    go_ret2
    exact ⟨rfl, rfl⟩

theorem slice_to (l p : List UInt8) (a : Nat) (ha : a ≤ l.length) (hl : l.length ≤ 140737488355328) (hp : p = l.take a) (W : World) :
    (Instr.slice 9 (.string ⟨l.toArray⟩) none (some (.int .i64 (a : Int))) none).run Try.prog W = .ok (.string ⟨p.toArray⟩) W := by
  subst hp
  have hsz : (ByteArray.mk l.toArray).size = l.length := by simp [ByteArray.size]
  rw [run_slice_string_to_if _ _ _ _ _ Try.underlying9, if_pos ⟨by omega, by rw [hsz]; omega⟩, Int.toNat_natCast, ByteArray.extract_mk]
  rfl
theorem slice_from (l p : List UInt8) (a : Nat) (x : Int) (hx : x = a) (ha : a ≤ l.length) (hl : l.length ≤ 140737488355328) (hp : p = l.drop a) (W : World) :
    (Instr.slice 9 (.string ⟨l.toArray⟩) (some (.int .i64 x)) none none).run Try.prog W = .ok (.string ⟨p.toArray⟩) W := by
  subst hp hx
  have hsz : (ByteArray.mk l.toArray).size = l.length := by simp [ByteArray.size]
  rw [run_slice_string_from_if _ _ _ _ _ Try.underlying9, if_pos ⟨by omega, by rw [hsz]; omega⟩, Int.toNat_natCast, hsz, ByteArray.extract_mk, List.take_of_length_le (by simp)]

theorem below_drewL {w w' : World} (h : Below w.drew.heap.size w.drew w') : Below w.heap.size w w' := ⟨h.os, h.tape, h.output, h.size, h.block⟩
theorem retSB {a b : ByteArray} {p : Bool} (h : a = b) : Ending.returned (.tuple #[.string a, .bool p]) = .returned (.tuple #[.string b, .bool p]) := by rw [h]
set_option maxHeartbeats 400000 in
theorem rPut_yes (l : List UInt8) (a k n : Nat) (hk : k = 1 ∨ k = 2 ∨ k = 4 ∨ k = 8) (hn : n < 18446744073709551616) (hz : l.length ≤ 140737488355328) (h : a + k ≤ l.length) (w : World) :
    Calls Try.prog 12 #[.string ⟨l.toArray⟩, .int .i64 a, .int .i64 k, .int .u64 n] w fun e w' => e = .returned (.tuple #[.string ⟨(M.put l a k n).toArray⟩, .bool true]) ∧ Below w.heap.size w w' := by
  have hh := M.has_nat hk h
  have hk8 : k ≤ 8 := by omega
  have HK := Lib.hid hk; clear hk
  obtain ⟨p, hp⟩ : ∃ p, p = l.take a := ⟨_, rfl⟩
  obtain ⟨q, hq⟩ : ∃ q, q = l.drop (a + k) := ⟨_, rfl⟩
  have hpl : p.length ≤ 140737488355328 := by rw [hp]; simp; omega
  have hql : q.length ≤ 140737488355328 := by rw [hq]; simp; omega
  have hel : (M.enc k n).length ≤ 8 := by rw [M.enc_length]; exact hk8
  have hs1 := fun W => slice_to l p a (by omega) hz hp W
  have hs2 := fun W => slice_from l q (a + k) ((a : Int) + k) (by omega) (by omega) hz hq W
  have HP := Lib.hid hp; clear hp
  have HQ := Lib.hid hq; clear hq
  go_enter Try.func12, Try.ntmps12
  go_wp2_with (go_at_call 21; refine (rHas_any _ _ _ hz (by omega) _).mono ?_; rintro e w' ⟨rfl, rfl⟩)
  have hwr : IntKind.i64.wrap ((a : Int) + k) = (a : Int) + k := IntWalk.i64_in _ (by omega)
  go_region_with (go_at_call 23; refine (rOne_any k n hk8 hn _).mono ?_; rintro e w' ⟨rfl, hb⟩)
  go_wp2
  go_ret2
  refine ⟨retSB (by rw [ByteArray.mk_append_mk, ByteArray.mk_append_mk, HP.out, HQ.out, M.put, List.append_assoc]), ?_⟩
  exact below_drewL hb

theorem rPut_no (l : List UInt8) (x y : Int) (n : Nat) (hz : l.length ≤ 140737488355328) (hx : -9223372036854775808 ≤ x ∧ x ≤ 9223372036854775807) (h : M.has l.length x y = false) (w : World) :
    Calls Try.prog 12 #[.string ⟨l.toArray⟩, .int .i64 x, .int .i64 y, .int .u64 n] w fun e w' => e = .returned (.tuple #[.string ⟨l.toArray⟩, .bool false]) ∧ w = w' := by
  go_enter Try.func12, Try.ntmps12
  go_wp2_with (go_at_call 21; refine (rHas_any _ _ _ hz hx _).mono ?_; rintro e w' ⟨rfl, rfl⟩)
  go_ret2
  exact ⟨rfl, rfl⟩

/-- The list behind a number that was put, or was not. -/
def putOf (l : List UInt8) (x y : Int) (n : Nat) : List UInt8 := if M.has l.length x y = true then M.put l x.toNat y.toNat n else l
theorem rPut_any (l : List UInt8) (x y : Int) (n : Nat) (hn : n < 18446744073709551616) (hz : l.length ≤ 140737488355328) (hx : -9223372036854775808 ≤ x ∧ x ≤ 9223372036854775807) (w : World) :
    Calls Try.prog 12 #[.string ⟨l.toArray⟩, .int .i64 x, .int .i64 y, .int .u64 n] w fun e w' => e = .returned (.tuple #[.string ⟨(putOf l x y n).toArray⟩, .bool (M.has l.length x y)]) ∧ Below w.heap.size w w' := by
  unfold putOf
  by_cases h : M.has l.length x y = true
  · rw [if_pos h, h]
    obtain ⟨a, k, rfl, rfl, hk, hak⟩ := M.has_cases h
    exact rPut_yes l a k n hk hn hz hak w
  · have h' : M.has l.length x y = false := by simpa using h
    rw [if_neg h, h']
    refine (rPut_no l x y n hz hx h' w).mono ?_
    rintro e w' ⟨rfl, rfl⟩
    exact ⟨rfl, Below.refl _ _⟩
theorem put_any (g : Nat) (l : List UInt8) (c : Nat) (x y : Int) (n : Nat) (hn : n < 18446744073709551616) (hz : l.length ≤ 140737488355328) (hx : -9223372036854775808 ≤ x ∧ x ≤ 9223372036854775807) (w : World) (hl : Own w g l) :
    Calls Try.prog 13 #[.slice (some ⟨g, 0, none⟩) l.length c, .int .i64 x, .int .i64 y, .int .u64 n] w fun e w' => e = .returned (.bool (M.has l.length x y)) ∧ Own w' g (putOf l x y n) ∧ w.grownBy w' (some g) := by
  unfold putOf
  by_cases h : M.has l.length x y = true
  · rw [if_pos h, h]
    obtain ⟨a, k, rfl, rfl, hk, hak⟩ := M.has_cases h
    exact put_yes g l c a k n hk hn hz hak w hl
  · have h' : M.has l.length x y = false := by simpa using h
    rw [if_neg h, h']
    refine (put_no _ _ c x y n hz hx h' w).mono ?_
    rintro e w' ⟨rfl, rfl⟩
    exact ⟨rfl, hl, World.grownBy.refl w _⟩

theorem fits_mod (n k : Nat) : (((n % 256 ^ k : Nat) : Int) == (n : Int)) = decide (n < 256 ^ k) := by
  rw [Bool.eq_iff_iff, beq_iff_eq, decide_eq_true_eq, Int.ofNat_inj]
  exact ⟨fun h => by rw [← h]; exact Nat.mod_lt _ (Nat.pow_pos (by decide)), fun h => Nat.mod_eq_of_lt h⟩
theorem rFits_any (n : Nat) (y : Int) (hn : n < 18446744073709551616) (w : World) :
    Calls Try.prog 15 #[.int .u64 n, .int .i64 y] w fun e w' => e = .returned (.bool (fitsB n y)) ∧ Below w.heap.size w w' := by
  by_cases hw : M.wide y = true
  · obtain ⟨k, rfl, hk⟩ := M.wide_cases hw
    have hk8 : k ≤ 8 := by omega
    have HK := Lib.hid hk; clear hk
    go_enter Try.func15, Try.ntmps15
    go_wp2_with (go_at_call 25; refine (rWide_any _ _).mono ?_; rintro e w' ⟨rfl, rfl⟩)
    refine (rOne_any k n hk8 hn _).mono ?_
    rintro e w1 ⟨rfl, hb⟩
    have HB := Lib.hid hb; clear hb
    go_wp2_with fail
    refine (rNumber_any _ (by rw [M.enc_length]; exact hk8) _).mono ?_
    rintro e w' ⟨rfl, rfl⟩
    go_wp2
    go_ret
    exact ⟨retB (by rw [M.num_enc, fitsB, hw, Bool.true_and]; exact fits_mod n k), HB.out⟩
  · have hw' : M.wide y = false := by simpa using hw
    clear hw
    go_enter Try.func15, Try.ntmps15
    go_wp2_with (go_at_call 25; refine (rWide_any _ _).mono ?_; rintro e w' ⟨rfl, rfl⟩)
    go_ret
    exact ⟨retB (by simp [fitsB, hw']), Below.refl _ _⟩

theorem index_str (l : List UInt8) (j : Nat) (h : j < l.length) (x : Int) (hx : x = j) (W : World) :
    (Instr.index 9 (.string ⟨l.toArray⟩) (.int .i64 x)).run Try.prog W = .ok (.int .u8 (l[j].toNat : Int)) W := by
  subst hx
  rw [run_index_string _ _ _ _ _ Try.underlying9]
  have hsz : (ByteArray.mk l.toArray).size = l.length := by simp [ByteArray.size]
  rw [dif_pos ⟨by omega, by rw [hsz]; omega⟩]
  rfl

theorem sgn_yes (k n : Nat) (h : n % 256 ^ k < 256 ^ k / 2) (hk : k ≤ 8) : wrap64 ((M.num (M.enc k n) : Nat) : Int) = M.sgn k n := by
  have hp : 256 ^ k ≤ 18446744073709551616 := Nat.le_trans (Nat.pow_le_pow_right (by decide) hk) (by decide)
  rw [M.num_enc, M.sgn, if_pos h, wrap64]
  omega
theorem sgn_no (k n : Nat) (h : ¬ n % 256 ^ k < 256 ^ k / 2) (hk : k ≤ 8) : wrap64 ((-1 : Int) - wrap64 ((M.num (M.flip (M.enc k n)) : Nat) : Int)) = M.sgn k n := by
  have hp : 256 ^ k ≤ 18446744073709551616 := Nat.le_trans (Nat.pow_le_pow_right (by decide) hk) (by decide)
  have hf := M.num_flip (M.enc k n)
  rw [M.enc_length, M.num_enc] at hf
  have hm := Nat.mod_lt n (show 256 ^ k > 0 from Nat.pow_pos (by decide))
  rw [M.sgn, if_neg h, wrap64, wrap64]
  generalize M.num (M.flip (M.enc k n)) = f at *
  generalize n % 256 ^ k = r at *
  generalize 256 ^ k = p at *
  omega
theorem rSigned_no (n : Nat) (y : Int) (hw' : M.wide y = false) (w : World) :
    Calls Try.prog 17 #[.int .u64 n, .int .i64 y] w fun e w' => e = .returned (.int .i64 0) ∧ w = w' := by
  go_enter Try.func17, Try.ntmps17
  go_wp2_with (go_at_call 25; refine (rWide_any _ _).mono ?_; rintro e w' ⟨rfl, rfl⟩)
  go_ret
  exact ⟨rfl, rfl⟩
theorem top_is (k n : Nat) (hk : 0 < k) (hk' : k - 1 < (M.enc k n).length) : decide ((M.enc k n)[k - 1].toNat < 128) = decide (n % 256 ^ k < 256 ^ k / 2) := by
  have h := M.top_byte k n hk
  rw [List.getElem?_eq_getElem hk'] at h
  simpa using h
set_option maxHeartbeats 400000 in
theorem rSigned_yes (n k : Nat) (hk : k = 1 ∨ k = 2 ∨ k = 4 ∨ k = 8) (hn : n < 18446744073709551616) (w : World) :
    Calls Try.prog 17 #[.int .u64 n, .int .i64 k] w fun e w' => e = .returned (.int .i64 (M.sgn k n)) ∧ Below w.heap.size w w' := by
  have hw := M.wide_nat hk
  have hk8 : k ≤ 8 := by omega
  have hk0 : 0 < k := by omega
  have HK := Lib.hid hk; clear hk
  have hlen : k - 1 < (M.enc k n).length := by rw [M.enc_length]; omega
  have htop := top_is k n hk0 hlen
  have hix := fun W => index_str (M.enc k n) (k - 1) hlen ((k : Int) - 1) (by omega) W
  generalize (M.enc k n)[k - 1].toNat = b at htop hix
  clear hlen
  by_cases hs : n % 256 ^ k < 256 ^ k / 2
  · have hb : b < 128 := by simpa [hs] using htop
    have hbd : decide ((b : Int) < 128) = true := by simp; omega
    have HT := Lib.hid htop; clear htop
    have HS := Lib.hid hs; clear hs
    go_enter Try.func17, Try.ntmps17
    go_wp2_with (go_at_call 25; refine (rWide_any _ _).mono ?_; rintro e w' ⟨rfl, rfl⟩)
    refine (rOne_any k n hk8 hn _).mono ?_
    rintro e w1 ⟨rfl, hbl⟩
    have HB := Lib.hid hbl; clear hbl
    have HN := Lib.hid hn; clear hn
    go_wp2_with fail
    refine (rNumber_any _ (by rw [M.enc_length]; exact hk8) _).mono ?_
    rintro e w' ⟨rfl, rfl⟩
    go_wp2
    go_ret
    exact ⟨ret1 (sgn_yes k n HS.out hk8), HB.out⟩
  · have hb : ¬ b < 128 := by simpa [hs] using htop
    have hbd : decide ((b : Int) < 128) = false := by simp; omega
    have HT := Lib.hid htop; clear htop
    have HS := Lib.hid hs; clear hs
    go_enter Try.func17, Try.ntmps17
    go_wp2_with (go_at_call 25; refine (rWide_any _ _).mono ?_; rintro e w' ⟨rfl, rfl⟩)
    refine (rOne_any k n hk8 hn _).mono ?_
    rintro e w1 ⟨rfl, hbl⟩
    have HB := Lib.hid hbl; clear hbl
    have HN := Lib.hid hn; clear hn
    go_wp2_with fail
    clear hix
    go_loopw [7, 8] (fun t i wr => ∃ j : Nat, j ≤ k ∧ i = .int .i64 j ∧ t = .string ⟨(M.flip ((M.enc k n).take j)).toArray⟩ ∧ Below w.heap.size w wr) (fun _ i _ => k - (intOf i).toNat)
    case atStart => exact ⟨0, by omega, rfl, rfl, HB.out⟩
    case round =>
      obtain ⟨j, hj, rfl, rfl, hbl⟩ := hrel
      by_cases hlt : j < k
      · have hjl : j < (M.enc k n).length := by rw [M.enc_length]; omega
        have hfs := M.flip_take_succ (M.enc k n) j hjl
        have hix := fun W => index_str (M.enc k n) j hjl (j : Int) rfl W
        have hfl : (M.flip ((M.enc k n).take j)).length ≤ 8 := by rw [M.flip_length, List.length_take]; omega
        generalize (M.enc k n)[j] = d at hix hfs
        have hd := d.toNat_lt
        have hcv := fun W => conv_one W (255 - (d.toNat : Int)) (255 - d) (by rw [UInt8.toNat_sub_of_le _ _ (by rw [UInt8.le_iff_toNat_le]; have : (255 : UInt8).toNat = 255 := rfl; omega)]; have : (255 : UInt8).toNat = 255 := rfl; omega)
        have HF := Lib.hid hfs; clear hfs
        go_wp2
        go_roundw
        case rel => exact ⟨j + 1, by omega, by go_num, by rw [str_snoc, HF.out], hbl.alloc hbl.size _⟩
        case measure => simp [intOf]; omega
      · have ej : (M.enc k n).take j = M.enc k n := by rw [List.take_of_length_le (by rw [M.enc_length]; omega)]
        rw [ej]
        clear ej
        go_wp2_with fail
        refine (rNumber_any _ (by rw [M.flip_length, M.enc_length]; exact hk8) _).mono ?_
        rintro e w' ⟨rfl, rfl⟩
        go_wp2
        go_ret
        exact ⟨ret1 (sgn_no k n HS.out hk8), hbl⟩

theorem rSigned_any (n : Nat) (y : Int) (hn : n < 18446744073709551616) (w : World) :
    Calls Try.prog 17 #[.int .u64 n, .int .i64 y] w fun e w' => e = .returned (.int .i64 (if M.wide y = true then M.sgn y.toNat n else 0)) ∧ Below w.heap.size w w' := by
  by_cases hw : M.wide y = true
  · rw [if_pos hw]
    obtain ⟨k, rfl, hk⟩ := M.wide_cases hw
    exact rSigned_yes n k hk hn w
  · rw [if_neg hw]
    refine (rSigned_no n y (by simpa using hw) w).mono ?_
    rintro e w' ⟨rfl, rfl⟩
    exact ⟨rfl, Below.refl _ _⟩

theorem bts_take_succ (k : Nat) (l : List Nat) (j : Nat) (h : j < l.length) : M.bts k (l.take j) ++ M.enc k l[j] = M.bts k (l.take (j + 1)) := by
  rw [List.take_succ_eq_append_getElem h, M.bts_append, M.bts_one]
theorem rBytes_no (y : Int) (A : Option Addr) (z c : Nat) (hz : z ≤ 1099511627776) (hw : M.wide y = false) (w : World) :
    Calls Try.prog 19 #[.int .i64 y, .slice A z c] w fun e w' => e = .returned (.string ⟨#[]⟩) ∧ w = w' := by
  by_cases h0 : 0 < z
  all_goals
    go_enter Try.func19, Try.ntmps19
    go_wp2_with (go_at_call 25; refine (rWide_any _ _).mono ?_; rintro e w' ⟨rfl, rfl⟩)
    refine wp_loop_rounds 1 ?_
    rw [rounds_succ]
    go_wp2
    go_ret
    exact ⟨rfl, rfl⟩
set_option maxHeartbeats 400000 in
theorem rBytes_yes (k : Nat) (hk : k = 1 ∨ k = 2 ∨ k = 4 ∨ k = 8) (A : Option Addr) (l : List Nat) (c : Nat) (hz : l.length ≤ 1099511627776) (hb : ∀ n ∈ l, n < 18446744073709551616) (w : World) (hl : Lies w A (u64s l)) :
    Calls Try.prog 19 #[.int .i64 k, .slice A l.length c] w fun e w' => e = .returned (.string ⟨(M.bts k l).toArray⟩) ∧ Below w.heap.size w w' := by
  have hw := M.wide_nat hk
  have hk8 : k ≤ 8 := by omega
  have HK := Lib.hid hk; clear hk
  have HB := Lib.hid hb; clear hb
  have HL := Lib.hid hl; clear hl
  go_enter Try.func19, Try.ntmps19
  go_wp2_with (go_at_call 25; refine (rWide_any _ _).mono ?_; rintro e w' ⟨rfl, rfl⟩)
  go_loopw [6, 7] (fun s i wr => ∃ j : Nat, j ≤ l.length ∧ i = .int .i64 j ∧ s = .string ⟨(M.bts k (l.take j)).toArray⟩ ∧ Below w.heap.size w wr) (fun _ i _ => l.length - (intOf i).toNat)
  case atStart => exact ⟨0, by omega, rfl, rfl, Below.refl _ _⟩
  case round =>
    obtain ⟨j, hj, rfl, rfl, hbl⟩ := hrel
    by_cases hlt : j < l.length
    · obtain ⟨ad, rfl, hc⟩ := (HL.out.below hbl) (by rw [u64s_length]; omega)
      have hcj := hc j (by rw [u64s_length]; omega)
      simp only [u64s, List.getElem_map] at hcj
      have hnj := HB.out l[j] (List.getElem_mem _)
      have hts := bts_take_succ k l j hlt
      have hbd : (M.bts k (l.take j)).length ≤ 8796093022208 := by
        rw [M.bts_length, List.length_take]
        exact Nat.le_trans (Nat.mul_le_mul (show min j l.length ≤ 1099511627776 by omega) hk8) (by decide)
      have hel : (M.enc k l[j]).length ≤ 8 := by rw [M.enc_length]; exact hk8
      generalize l[j] = q at hcj hnj hts hel
      have HC := Lib.hid hc; clear hc
      have HT := Lib.hid hts; clear hts
      go_wp2_with fail
      refine (rOne_any k q hk8 hnj _).mono ?_
      rintro e w1 ⟨rfl, h1⟩
      have H1 := hbl.trans (h1.mono hbl.size)
      clear h1
      have HN := Lib.hid hnj; clear hnj
      go_wp2
      go_roundw
      case rel => exact ⟨j + 1, by omega, by go_num, by rw [ByteArray.mk_append_mk, HT.out], H1⟩
      case measure => simp [intOf]; omega
    · go_wp2
      go_ret
      exact ⟨retS (by rw [List.take_of_length_le (by omega)]), hbl⟩
theorem rBytes_any (y : Int) (A : Option Addr) (l : List Nat) (c : Nat) (hz : l.length ≤ 1099511627776) (hb : ∀ n ∈ l, n < 18446744073709551616) (w : World) (hl : Lies w A (u64s l)) :
    Calls Try.prog 19 #[.int .i64 y, .slice A l.length c] w fun e w' => e = .returned (.string ⟨(btsOf y l).toArray⟩) ∧ Below w.heap.size w w' := by
  by_cases hw : M.wide y = true
  · obtain ⟨k, rfl, hk⟩ := M.wide_cases hw
    rw [btsOf_wide hk]
    exact rBytes_yes k hk A l c hz hb w hl
  · have e : btsOf y l = [] := by unfold btsOf; rw [if_neg hw]
    rw [e]
    refine (rBytes_no y A _ c hz (by simpa using hw) w).mono ?_
    rintro e w' ⟨rfl, rfl⟩
    exact ⟨rfl, Below.refl _ _⟩
end Go.Proofs.Ytnlmbbhbpbbkaaa
