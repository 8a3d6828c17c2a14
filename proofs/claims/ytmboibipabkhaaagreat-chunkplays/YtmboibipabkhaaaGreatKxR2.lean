/-
  What each of the document's answers for layer 2 comes to.
-/
import Derived.Test.YtmboibipabkhaaaGreatKxK5
namespace Go.Proofs.YtmboibipabkhaaaGreat
open Go.ChangeShapes Go.WideShapes Go.ChangeAt Go.RowKit
set_option linter.unusedVariables false
theorem num_step (l : List UInt8) (j : Nat) (h0 : 0 < j) (hj : j ≤ l.length) (hl : l.length ≤ 8) (hp : j - 1 < (ByteArray.mk l.toArray).size) :
  IntKind.u64.wrap (IntKind.u64.wrap ((M.num (l.drop j) : Nat) * 256) + IntKind.u64.wrap ((ByteArray.mk l.toArray)[j - 1].toNat : Int)) = ((M.num (l.drop (j - 1)) : Nat) : Int) := by
 have hj' : j - 1 < l.length := by omega
 have e0 : (ByteArray.mk l.toArray)[j - 1] = l[j - 1] := rfl
 have e1 : M.num (l.drop (j - 1)) = l[j - 1].toNat + 256 * M.num (l.drop j) := by
  rw [List.drop_eq_getElem_cons hj', M.num, show j - 1 + 1 = j by omega]
 have h2 := M.num_lt (l.drop (j - 1))
 have h3 : 256 ^ (l.drop (j - 1)).length ≤ 18446744073709551616 := Nat.le_trans (Nat.pow_le_pow_right (by decide) (show _ ≤ 8 by simp; omega)) (by decide)
 rw [e0, e1, wrapU, wrapU, wrapU]
 rw [e1] at h2
 generalize l[j - 1].toNat = b at *
 generalize M.num (l.drop j) = q at *
 omega
theorem rNumber_any (l : List UInt8) (hl : l.length ≤ 8) (w : World) :
  Calls Tryz.prog 94 #[.string ⟨l.toArray⟩] w fun e w' => e = .returned (.int .u64 (M.num l : Nat)) ∧ w = w' := by
 go_enter Tryz.func94, Tryz.ntmps94
 go_wp2
 go_loop [3, 4] (fun n i => ∃ j : Nat, j ≤ l.length ∧ i = .int .i64 ((j : Int) - 1) ∧ n = .int .u64 (M.num (l.drop j) : Nat)) (fun _ i => (intOf i + 1).toNat)
 case atStart => exact ⟨l.length, by omega, rfl, by simp [M.num]⟩
 case round =>
  obtain ⟨j, hj, rfl, rfl⟩ := hrel
  by_cases hlt : 0 < j
  ·go_wp2
   go_round
   case rel => exact ⟨j - 1, by omega, by go_num, by rw [num_step l j hlt hj hl]⟩
   case measure => simp [intOf]; omega
  ·go_wp2
   go_ret
   exact ⟨ret1 (by rw [show j = 0 by omega]; rfl), rfl⟩
theorem rOne_any (k n : Nat) (hk : k ≤ 8) (hn : n < 18446744073709551616) (w : World) :
  Calls Tryz.prog 85 #[.int .i64 k, .int .u64 n] w fun e w' => e = .returned (.string ⟨(M.enc k n).toArray⟩) ∧ Below w.heap.size w w' := by
 go_enter Tryz.func85, Tryz.ntmps85
 go_wp2
 go_loopw [1, 5, 6] (fun m s i wr => ∃ j q : Nat, j ≤ k ∧ q < 18446744073709551616 ∧ i = .int .i64 j ∧ m = .int .u64 q ∧ s = .string ⟨(M.enc j n).toArray⟩ ∧ Hid (q = n / 256 ^ j) ∧ Below w.heap.size w wr) (fun _ _ i _ => k - (intOf i).toNat)
 case atStart => exact ⟨0, n, by omega, hn, rfl, rfl, rfl, by simp [Hid], Below.refl _ _⟩
 case round =>
  obtain ⟨j, q, hj, hq, rfl, rfl, rfl, HQ, hb⟩ := hrel
  by_cases hlt : j < k
  ·have hle : (M.enc j n).length ≤ 8 := by rw [M.enc_length]; omega
   have hcv := fun W => conv_one W ((q : Int) % 256) (UInt8.ofNat q) (by simp)
   go_wp2
   go_roundw
   case rel => exact ⟨j + 1, q / 256, by omega, by omega, by go_num, by go_num, by rw [str_snoc, M.enc_succ, ← HQ.out], by rw [HQ.out, Nat.div_div_eq_div_mul, ← Nat.pow_succ]; exact Lib.hid rfl, hb.alloc hb.size _⟩
   case measure => simp [intOf]; omega
  ·go_wp2
   go_ret
   exact ⟨retS (by rw [show k = j by omega]), hb⟩
theorem extract_seg (l : List UInt8) (a k : Nat) : (ByteArray.mk l.toArray).extract a (a + k) = ByteArray.mk (M.seg l a k).toArray := by
 rw [ByteArray.extract_mk, show a + k - a = k by omega]; rfl
end Go.Proofs.YtmboibipabkhaaaGreat
