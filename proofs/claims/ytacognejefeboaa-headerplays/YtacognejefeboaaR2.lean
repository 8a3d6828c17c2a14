/-
  What each of the document's answers for layer 2 comes to.
-/
import Derived.Test.YtacognejefeboaaC2
namespace Go.Proofs.Ytacognejefeboaa
open Go.ChangeShapes Go.WideShapes Go.ChangeAt Go.RowKit
set_option linter.unusedVariables false

theorem num_step (l : List UInt8) (j : Nat) (h0 : 0 < j) (hj : j ≤ l.length) (hl : l.length ≤ 8) (hp : j - 1 < (ByteArray.mk l.toArray).size) :
    IntKind.u64.wrap (IntKind.u64.wrap ((M.num (l.drop j) : Nat) * 256) + IntKind.u64.wrap ((ByteArray.mk l.toArray)[j - 1].toNat : Int)) = ((M.num (l.drop (j - 1)) : Nat) : Int) := by
  have hj' : j - 1 < l.length := by omega
  have e0 : (ByteArray.mk l.toArray)[j - 1] = l[j - 1] := rfl
  have e1 : M.num (l.drop (j - 1)) = l[j - 1].toNat + 256 * M.num (l.drop j) := by
    rw [List.drop_eq_getElem_cons hj', M.num, show j - 1 + 1 = j by omega]
  have h2 := M.num_lt (l.drop (j - 1))
  have h3 : 256 ^ (l.drop (j - 1)).length ≤ 18446744073709551616 := Nat.le_trans (Nat.pow_le_pow_right (by decide) (show _ ≤ 8 by simp; omega)) (by decide)
  rw [e0, e1, wrapU, wrapU, wrapU]
  rw [e1] at h2
  generalize l[j - 1].toNat = b at *
  generalize M.num (l.drop j) = q at *
  omega
theorem rNumber_any (l : List UInt8) (hl : l.length ≤ 8) (w : World) :
    Calls Try.prog 52 #[.string ⟨l.toArray⟩] w fun e w' => e = .returned (.int .u64 (M.num l : Nat)) ∧ w = w' := by
  go_enter Try.func52, Try.ntmps52
  go_wp2
  go_loop [3, 4] (fun n i => ∃ j : Nat, j ≤ l.length ∧ i = .int .i64 ((j : Int) - 1) ∧ n = .int .u64 (M.num (l.drop j) : Nat)) (fun _ i => (intOf i + 1).toNat)
  case atStart => exact ⟨l.length, by omega, rfl, by simp [M.num]⟩
  case round =>
    obtain ⟨j, hj, rfl, rfl⟩ := hrel
    by_cases hlt : 0 < j
    · go_wp2
      go_round
      case rel => exact ⟨j - 1, by omega, by go_num, by rw [num_step l j hlt hj hl]⟩
      case measure => simp [intOf]; omega
    · go_wp2
      go_ret
      exact ⟨ret1 (by rw [show j = 0 by omega]; rfl), rfl⟩
theorem rOne_any (k n : Nat) (hk : k ≤ 8) (hn : n < 18446744073709551616) (w : World) :
    Calls Try.prog 48 #[.int .i64 k, .int .u64 n] w fun e w' => e = .returned (.string ⟨(M.enc k n).toArray⟩) ∧ Below w.heap.size w w' := by
  go_enter Try.func48, Try.ntmps48
  go_wp2
  go_loopw [1, 5, 6] (fun m s i wr => ∃ j q : Nat, j ≤ k ∧ q < 18446744073709551616 ∧ i = .int .i64 j ∧ m = .int .u64 q ∧ s = .string ⟨(M.enc j n).toArray⟩ ∧ Hid (q = n / 256 ^ j) ∧ Below w.heap.size w wr) (fun _ _ i _ => k - (intOf i).toNat)
  case atStart => exact ⟨0, n, by omega, hn, rfl, rfl, rfl, by simp [Hid], Below.refl _ _⟩
  case round =>
    obtain ⟨j, q, hj, hq, rfl, rfl, rfl, HQ, hb⟩ := hrel
    by_cases hlt : j < k
    · have hle : (M.enc j n).length ≤ 8 := by rw [M.enc_length]; omega
      have hcv := fun W => conv_one W ((q : Int) % 256) (UInt8.ofNat q) (by simp)
      go_wp2
      go_roundw
      case rel => exact ⟨j + 1, q / 256, by omega, by omega, by go_num, by go_num, by rw [str_snoc, M.enc_succ, ← HQ.out], by rw [HQ.out, Nat.div_div_eq_div_mul, ← Nat.pow_succ]; exact Lib.hid rfl, hb.alloc hb.size _⟩
      case measure => simp [intOf]; omega
    · go_wp2
      go_ret
      exact ⟨retS (by rw [show k = j by omega]), hb⟩
theorem extract_seg (l : List UInt8) (a k : Nat) : (ByteArray.mk l.toArray).extract a (a + k) = ByteArray.mk (M.seg l a k).toArray := by
  rw [ByteArray.extract_mk, show a + k - a = k by omega]; rfl
theorem fits_mod (n k : Nat) : (((n % 256 ^ k : Nat) : Int) == (n : Int)) = decide (n < 256 ^ k) := by
  rw [Bool.eq_iff_iff, beq_iff_eq, decide_eq_true_eq, Int.ofNat_inj]
  exact ⟨fun h => by rw [← h]; exact Nat.mod_lt _ (Nat.pow_pos (by decide)), fun h => Nat.mod_eq_of_lt h⟩
theorem sgn_yes (k n : Nat) (h : n % 256 ^ k < 256 ^ k / 2) (hk : k ≤ 8) : wrap64 ((M.num (M.enc k n) : Nat) : Int) = M.sgn k n := by
  have hp : 256 ^ k ≤ 18446744073709551616 := Nat.le_trans (Nat.pow_le_pow_right (by decide) hk) (by decide)
  rw [M.num_enc, M.sgn, if_pos h, wrap64]
  omega
theorem sgn_no (k n : Nat) (h : ¬ n % 256 ^ k < 256 ^ k / 2) (hk : k ≤ 8) : wrap64 ((-1 : Int) - wrap64 ((M.num (M.flip (M.enc k n)) : Nat) : Int)) = M.sgn k n := by
  have hp : 256 ^ k ≤ 18446744073709551616 := Nat.le_trans (Nat.pow_le_pow_right (by decide) hk) (by decide)
  have hf := M.num_flip (M.enc k n)
  rw [M.enc_length, M.num_enc] at hf
  have hm := Nat.mod_lt n (show 256 ^ k > 0 from Nat.pow_pos (by decide))
  rw [M.sgn, if_neg h, wrap64, wrap64]
  generalize M.num (M.flip (M.enc k n)) = f at *
  generalize n % 256 ^ k = r at *
  generalize 256 ^ k = p at *
  omega
theorem top_is (k n : Nat) (hk : 0 < k) (hk' : k - 1 < (M.enc k n).length) : decide ((M.enc k n)[k - 1].toNat < 128) = decide (n % 256 ^ k < 256 ^ k / 2) := by
  have h := M.top_byte k n hk
  rw [List.getElem?_eq_getElem hk'] at h
  simpa using h
theorem bts_take_succ (k : Nat) (l : List Nat) (j : Nat) (h : j < l.length) : M.bts k (l.take j) ++ M.enc k l[j] = M.bts k (l.take (j + 1)) := by
  rw [List.take_succ_eq_append_getElem h, M.bts_append, M.bts_one]
theorem putOf_length (l : List UInt8) (x y : Int) (n : Nat) : (putOf l x y n).length = l.length := by
  unfold putOf
  split
  · next h =>
    obtain ⟨a, k, rfl, rfl, hk, hak⟩ := M.has_cases h
    exact M.put_length l a k n hak
  · rfl
end Go.Proofs.Ytacognejefeboaa
