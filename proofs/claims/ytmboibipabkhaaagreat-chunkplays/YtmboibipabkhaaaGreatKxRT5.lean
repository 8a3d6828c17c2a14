/-
  The document's Total and Best.
-/
import Derived.Test.YtmboibipabkhaaaGreatKxK0
import Derived.Test.YtmboibipabkhaaaGreatKxK1
namespace Go.Proofs.YtmboibipabkhaaaGreat
open Go.ChangeShapes Go.WideShapes Go.ChangeAt Go.RowKit Go.Deep
set_option linter.unusedVariables false
set_option maxRecDepth 20000
set_option maxHeartbeats 1000000 in
theorem rtotal_any (w : World) (A : Option Addr) (l : List M.R) (z c : Nat) (hz : z = l.length) (hA : Runs w A l) (hl : z ≤ 9223372036854775807) (hok : M.Ok (-1) 1073741824 l) :
  Calls Tryz.prog 19 #[.slice A z c] w fun e w' => e = .returned (.int .i64 (M.total l)) ∧ Below w.heap.size w w' := by
 have HZ := Lib.hid hz
 have HA := Lib.hid hA
 have HO := Lib.hid hok
 clear hz hA hok
 go_enter Tryz.func19, Tryz.ntmps19
 go_wp2_with fail
 go_loop [3, 4] (fun t i => ∃ k : Nat, k ≤ z ∧ i = .int .i64 (k : Int) ∧ t = .int .i64 (M.total (l.take k))) (fun t i => z - (intOf i).toNat)
 case atStart => exact ⟨0, by omega, rfl, rfl⟩
 case round =>
  obtain ⟨k, hk, rfl, rfl⟩ := hrel
  obtain ⟨T, hT⟩ : ∃ T, T = M.total (l.take k) := ⟨_, rfl⟩
  rw [← hT]
  have HT := Lib.hid hT
  clear hT
  by_cases hlt : k < z
  ·have hkl : k < l.length := by have := HZ.out; omega
   obtain ⟨bl, o, rfl, hc⟩ := HA.out (by omega)
   have c1 := (hc k hkl).2
   have b0 := ok_at HO.out k hkl
   have b1 := total_between HO.out (by omega) k
   have e1 := M.total_take_succ l k hkl
   rw [← HT.out] at b1 e1
   obtain ⟨n, hn⟩ : ∃ n, n = l[k].n := ⟨_, rfl⟩
   rw [← hn] at c1 e1 b0
   have s1 : wrap64 (T + n) = T + n := by unfold wrap64; omega
   have HE := Lib.hid e1
   clear b0 b1 e1 hn hc hk hkl
   go_wp2_with fail
   go_round
   case rel => exact ⟨k + 1, by omega, by go_num, by rw [HE.out, s1]⟩
   case measure => simp [intOf]; omega
  ·go_wp2_with fail
   go_ret
   have e : l.take k = l := List.take_of_length_le (by have := HZ.out; omega)
   exact ⟨ret1 (by rw [HT.out, e]), Below.refl _ _⟩
def Bk (l : List M.R) (n : Int) (m : Nat) (v : Int) : Prop := (v = -1 ∧ M.best n (l.drop m) = -1) ∨ ∃ j : Nat, v = ((m + j : Nat) : Int) ∧ M.best n (l.drop m) = (j : Int) ∧ m + j < l.length
theorem Bk.step {l : List M.R} {n : Int} {m : Nat} {v : Int} (h : Bk l n (m + 1) v) (hm : m < l.length) (hn : 1 ≤ n) :
  (l[m].n < n → Bk l n m v) ∧ (n ≤ l[m].n → v = -1 → Bk l n m (m : Int)) ∧ (n ≤ l[m].n → ∀ (j : Nat) (hj : j < l.length), v = (j : Int) → (l[m].n ≤ l[j].n → Bk l n m (m : Int)) ∧ (l[j].n < l[m].n → Bk l n m v)) := by
 have ed : l.drop m = l[m] :: l.drop (m + 1) := List.drop_eq_getElem_cons hm
 have eb : M.best n (l.drop m) = if n ≤ l[m].n ∧ 1 ≤ n ∧ (M.best n (l.drop (m + 1)) < 0 ∨ l[m].n ≤ ((l.drop (m + 1)).getD (M.best n (l.drop (m + 1))).toNat ⟨0, 0⟩).n) then 0 else if M.best n (l.drop (m + 1)) < 0 then -1 else M.best n (l.drop (m + 1)) + 1 := by rw [ed]; rfl
 unfold Bk
 rw [eb]
 rcases h with ⟨rfl, e⟩ | ⟨j, rfl, e, hj⟩
 ·rw [e]
  refine ⟨fun h => .inl ⟨rfl, ?_⟩, fun h _ => .inr ⟨0, by omega, ?_, by omega⟩, fun _ j _ h => by omega⟩
  ·rw [if_neg (by omega), if_pos (by omega)]
  ·rw [if_pos ⟨h, hn, .inl (by omega)⟩]; rfl
 ·rw [e]
  have eg : ((l.drop (m + 1)).getD ((j : Int).toNat) ⟨0, 0⟩).n = l[m + 1 + j].n := by
   rw [Int.toNat_natCast, M.getD_at _ j (by rw [List.length_drop]; omega), List.getElem_drop]
  rw [eg]
  refine ⟨fun h => .inr ⟨j + 1, by omega, ?_, by omega⟩, fun _ h => by omega, fun h i hi e2 => ⟨fun h2 => .inr ⟨0, by omega, ?_, by omega⟩, fun h2 => .inr ⟨j + 1, by omega, ?_, by omega⟩⟩⟩
  ·rw [if_neg (by omega), if_neg (by omega)]; omega
  ·have ei : i = m + 1 + j := by omega
   subst ei
   rw [if_pos ⟨h, hn, .inr h2⟩]; rfl
  ·have ei : i = m + 1 + j := by omega
   subst ei
   rw [if_neg (by omega), if_neg (by omega)]; omega
set_option maxHeartbeats 8000000 in
theorem rbest_any (w : World) (A : Option Addr) (l : List M.R) (z c : Nat) (hz : z = l.length) (hA : Runs w A l) (hl : z ≤ 4000000000) (n : Int) :
  Calls Tryz.prog 104 #[.slice A z c, .int .i64 n] w fun e w' => e = .returned (.int .i64 (M.best n l)) ∧ Below w.heap.size w w' := by
 have HZ := Lib.hid hz
 have HA := Lib.hid hA
 clear hz hA
 go_enter Tryz.func104, Tryz.ntmps104
 have hw1 : wrap64 ((z : Int) - 1) = (z : Int) - 1 := by unfold wrap64; omega
 go_wp2_with fail
 clear hw1
 go_loopw [5, 6] (fun t i wr => ∃ (m : Nat) (v : Int), m ≤ z ∧ i = .int .i64 ((m : Int) - 1) ∧ t = .int .i64 v ∧ Bk l n m v ∧ Below w.heap.size w wr) (fun t i _ => (intOf i + 1).toNat)
 case atStart => exact ⟨z, -1, Nat.le_refl _, rfl, rfl, .inl ⟨rfl, by rw [HZ.out, List.drop_length]; rfl⟩, Below.refl _ _⟩
 case round =>
  obtain ⟨m', v, hm, rfl, rfl, hk, br⟩ := hrel
  have BR := Lib.hid br
  have HK := Lib.hid hk
  clear br hk
  rcases Nat.eq_zero_or_pos m' with h0 | h0
  ·subst h0
   have hk := HK.out
   rw [Bk, List.drop_zero] at hk
   have hv : v = M.best n l := by
    rcases hk with ⟨h1, h2⟩ | ⟨j, h1, h2, _⟩
    ·rw [h1, h2]
    ·rw [h1, h2]; omega
   have HV := Lib.hid hv
   clear hk hv
   go_wp2_with fail
   go_ret
   exact ⟨ret1 HV.out, BR.out⟩
  ·obtain ⟨m, hmm⟩ : ∃ m, m' = m + 1 := ⟨m' - 1, by omega⟩
   subst hmm
   have e0 : ((m + 1 : Nat) : Int) - 1 = (m : Int) := by omega
   rw [e0]
   clear e0 h0
   by_cases hn1 : n < 1
   ·have hv : v = M.best n l := by
     rw [M.best_none hn1]
     rcases HK.out with ⟨h1, h2⟩ | ⟨j, h1, h2, _⟩
     ·exact h1
     ·rw [M.best_none hn1] at h2; omega
    have HV := Lib.hid hv
    clear hv
    go_wp2_with fail
    go_ret
    exact ⟨ret1 HV.out, BR.out⟩
   ·have hml : m < l.length := by have := HZ.out; omega
    have hmz : m < z := by omega
    obtain ⟨bl, o, rfl, hc⟩ := HA.out (by omega)
    have c1 := (hc m hml).2
    have hst := HK.out.step hml (by omega)
    obtain ⟨x, hx⟩ : ∃ x, x = l[m].n := ⟨_, rfl⟩
    rw [← hx] at c1 hst
    have C1 := Lib.hid c1
    have HC := Lib.hid hc
    have d1 := (BR.out.cell (lt_of_cell c1)).trans c1
    have hwm : wrap64 ((m : Int) - 1) = (m : Int) - 1 := by unfold wrap64; omega
    clear hx c1 hc hml
    by_cases t1 : x < n
    ·have HX := Lib.hid (hst.1 t1)
     clear hst
     go_wp2_with fail
     go_cut [41] (fun v wx => v = .bool false ∧ Below w.heap.size w wx)
     case first =>
      have q1 : decide (n ≤ x) = false := by simp; omega
      refine wp_region_noPanic ?_
      refine wp_region_held_drew (S := fun W => W.cell? ⟨bl, o + m * 2 + 1, none⟩ = some (.int .i64 x)) (by kernel_rfl) ((BR.out.drew.cell (lt_of_cell C1.out)).trans C1.out) (fun hHeld => ?_)
      refine tkA 0 (some 18) (Op.move (Operand.tmp 0)) 29 (v := ?_) rfl (by kernel_rfl) ?_ ‹_› ?_
      rotate_left
      ·(intro w h; (try dsimp only at h); go_simp) <;> with_reducible rfl
      (try simp only [Act.put, yI, yZ, yS])
      refine tkA 1 (some 19) (Op.move (Operand.tmp 6)) 3 (v := ?_) rfl (by kernel_rfl) ?_ ‹_› ?_
      rotate_left
      ·(intro w h; (try dsimp only at h); go_simp) <;> with_reducible rfl
      (try simp only [Act.put, yI, yZ, yS])
      refine tkA 2 (some 20) (Op.indexAddr 29 (Operand.tmp 18) (Operand.tmp 19)) 0 (v := ?_) rfl (by kernel_rfl) ?_ ‹_› ?_
      rotate_left
      ·(intro w h; (try dsimp only at h); go_simp) <;> with_reducible rfl
      (try simp only [Act.put, yI, yZ, yS])
      refine tkA 3 (some 21) (Op.fieldAddr 98 (Operand.tmp 20) 1) 0 (v := ?_) rfl (by kernel_rfl) ?_ ‹_› ?_
      rotate_left
      ·(intro w h; (try dsimp only at h); go_simp) <;> with_reducible rfl
      (try simp only [Act.put, yI, yZ, yS])
      refine tkA 4 (some 22) (Op.load 3 (Operand.tmp 21)) 3 (v := ?_) rfl (by kernel_rfl) ?_ ‹_› ?_
      rotate_left
      ·(intro w h; (try dsimp only at h); go_simp) <;> with_reducible rfl
      (try simp only [Act.put, yI, yZ, yS])
      refine tkA 5 (some 23) (Op.move (Operand.tmp 1)) 3 (v := ?_) rfl (by kernel_rfl) ?_ ‹_› ?_
      rotate_left
      ·(intro w h; (try dsimp only at h); go_simp) <;> with_reducible rfl
      (try simp only [Act.put, yI, yZ, yS])
      refine tkA 6 (some 24) (Op.binOp BinOp.geq 3 (Operand.tmp 22) (Operand.tmp 23) 3) 4 (v := ?_) rfl (by kernel_rfl) ?_ ‹_› ?_
      rotate_left
      ·(intro w h; (try dsimp only at h); go_simp) <;> with_reducible rfl
      (try simp only [Act.put, yI, yZ, yS])
      refine tkA 7 (some 25) (Op.move (Operand.tmp 24)) 4 (v := ?_) rfl (by kernel_rfl) ?_ ‹_› ?_
      rotate_left
      ·(intro w h; (try dsimp only at h); go_simp) <;> with_reducible rfl
      (try simp only [Act.put, yI, yZ, yS])
      refine tkO 8 (some 26) rfl (by kernel_rfl) ‹_› ?_
      (try simp only [Act.put, yI, yZ, yS])
      refine tkO 9 (some 27) rfl (by kernel_rfl) ‹_› ?_
      (try simp only [Act.put, yI, yZ, yS])
      refine tkO 10 (some 28) rfl (by kernel_rfl) ‹_› ?_
      (try simp only [Act.put, yI, yZ, yS])
      refine tkO 11 (some 29) rfl (by kernel_rfl) ‹_› ?_
      (try simp only [Act.put, yI, yZ, yS])
      refine tkO 12 (some 30) rfl (by kernel_rfl) ‹_› ?_
      (try simp only [Act.put, yI, yZ, yS])
      refine tkO 13 (some 31) rfl (by kernel_rfl) ‹_› ?_
      (try simp only [Act.put, yI, yZ, yS])
      refine tkO 14 (some 32) rfl (by kernel_rfl) ‹_› ?_
      (try simp only [Act.put, yI, yZ, yS])
      refine tkO 15 (some 33) rfl (by kernel_rfl) ‹_› ?_
      (try simp only [Act.put, yI, yZ, yS])
      refine tkO 16 (some 34) rfl (by kernel_rfl) ‹_› ?_
      (try simp only [Act.put, yI, yZ, yS])
      refine tkO 17 (some 35) rfl (by kernel_rfl) ‹_› ?_
      (try simp only [Act.put, yI, yZ, yS])
      refine tkO 18 (some 36) rfl (by kernel_rfl) ‹_› ?_
      (try simp only [Act.put, yI, yZ, yS])
      refine tkO 19 (some 37) rfl (by kernel_rfl) ‹_› ?_
      (try simp only [Act.put, yI, yZ, yS])
      refine tkO 20 (some 38) rfl (by kernel_rfl) ‹_› ?_
      (try simp only [Act.put, yI, yZ, yS])
      refine tkO 21 (some 39) rfl (by kernel_rfl) ‹_› ?_
      (try simp only [Act.put, yI, yZ, yS])
      refine tkO 22 (some 40) rfl (by kernel_rfl) ‹_› ?_
      (try simp only [Act.put, yI, yZ, yS])
      refine tkA 23 (some 41) (Op.pick (Operand.tmp 25) (Operand.tmp 40) (Operand.const (Value.bool false))) 4 (v := ?_) rfl (by kernel_rfl) ?_ ‹_› ?_
      rotate_left
      ·(intro w h; (try dsimp only at h); go_simp) <;> with_reducible rfl
      (try simp only [Act.put, yI, yZ, yS])
      refine wpAnyH_done (by kernel_rfl) ?_ _
      refine NoPanic.normal ?_
      go_wp2_with fail
      go_meet
      exact ⟨by first | rfl | (simp; omega), BR.out.drew⟩
     case rest =>
      obtain ⟨rfl, bx⟩ := hcut
      go_wp2_with fail
      go_roundw
      case rel => exact ⟨m, v, by omega, by first | go_num | (simp; omega), rfl, HX.out, bx⟩
      case measure => simp [intOf]
    ·rcases HK.out with ⟨hv, _⟩ | ⟨j0, hv, _, hj0⟩
     ·have HX := Lib.hid (hst.2.1 (by omega) hv)
      clear hst
      subst hv
      go_wp2_with fail
      go_cut [41] (fun v wx => v = .bool true ∧ Below w.heap.size w wx)
      case first =>
       have q1 : decide (n ≤ x) = true := by simp; omega
       refine wp_region_noPanic ?_
       refine wp_region_held_drew (S := fun W => W.cell? ⟨bl, o + m * 2 + 1, none⟩ = some (.int .i64 x)) (by kernel_rfl) ((BR.out.drew.cell (lt_of_cell C1.out)).trans C1.out) (fun hHeld => ?_)
       refine tkA 0 (some 18) (Op.move (Operand.tmp 0)) 29 (v := ?_) rfl (by kernel_rfl) ?_ ‹_› ?_
       rotate_left
       ·(intro w h; (try dsimp only at h); go_simp) <;> with_reducible rfl
       (try simp only [Act.put, yI, yZ, yS])
       refine tkA 1 (some 19) (Op.move (Operand.tmp 6)) 3 (v := ?_) rfl (by kernel_rfl) ?_ ‹_› ?_
       rotate_left
       ·(intro w h; (try dsimp only at h); go_simp) <;> with_reducible rfl
       (try simp only [Act.put, yI, yZ, yS])
       refine tkA 2 (some 20) (Op.indexAddr 29 (Operand.tmp 18) (Operand.tmp 19)) 0 (v := ?_) rfl (by kernel_rfl) ?_ ‹_› ?_
       rotate_left
       ·(intro w h; (try dsimp only at h); go_simp) <;> with_reducible rfl
       (try simp only [Act.put, yI, yZ, yS])
       refine tkA 3 (some 21) (Op.fieldAddr 98 (Operand.tmp 20) 1) 0 (v := ?_) rfl (by kernel_rfl) ?_ ‹_› ?_
       rotate_left
       ·(intro w h; (try dsimp only at h); go_simp) <;> with_reducible rfl
       (try simp only [Act.put, yI, yZ, yS])
       refine tkA 4 (some 22) (Op.load 3 (Operand.tmp 21)) 3 (v := ?_) rfl (by kernel_rfl) ?_ ‹_› ?_
       rotate_left
       ·(intro w h; (try dsimp only at h); go_simp) <;> with_reducible rfl
       (try simp only [Act.put, yI, yZ, yS])
       refine tkA 5 (some 23) (Op.move (Operand.tmp 1)) 3 (v := ?_) rfl (by kernel_rfl) ?_ ‹_› ?_
       rotate_left
       ·(intro w h; (try dsimp only at h); go_simp) <;> with_reducible rfl
       (try simp only [Act.put, yI, yZ, yS])
       refine tkA 6 (some 24) (Op.binOp BinOp.geq 3 (Operand.tmp 22) (Operand.tmp 23) 3) 4 (v := ?_) rfl (by kernel_rfl) ?_ ‹_› ?_
       rotate_left
       ·(intro w h; (try dsimp only at h); go_simp) <;> with_reducible rfl
       (try simp only [Act.put, yI, yZ, yS])
       refine tkA 7 (some 25) (Op.move (Operand.tmp 24)) 4 (v := ?_) rfl (by kernel_rfl) ?_ ‹_› ?_
       rotate_left
       ·(intro w h; (try dsimp only at h); go_simp) <;> with_reducible rfl
       (try simp only [Act.put, yI, yZ, yS])
       refine tkA 8 (some 26) (Op.move (Operand.tmp 5)) 3 (v := ?_) rfl (by kernel_rfl) ?_ ‹_› ?_
       rotate_left
       ·(intro w h; (try dsimp only at h); go_simp) <;> with_reducible rfl
       (try simp only [Act.put, yI, yZ, yS])
       refine tkA 9 (some 27) (Op.binOp BinOp.lss 3 (Operand.tmp 26) (Operand.const (Value.int IntKind.i64 0)) 3) 4 (v := ?_) rfl (by kernel_rfl) ?_ ‹_› ?_
       rotate_left
       ·(intro w h; (try dsimp only at h); go_simp) <;> with_reducible rfl
       (try simp only [Act.put, yI, yZ, yS])
       refine tkA 10 (some 28) (Op.move (Operand.tmp 27)) 4 (v := ?_) rfl (by kernel_rfl) ?_ ‹_› ?_
       rotate_left
       ·(intro w h; (try dsimp only at h); go_simp) <;> with_reducible rfl
       (try simp only [Act.put, yI, yZ, yS])
       refine tkO 11 (some 29) rfl (by kernel_rfl) ‹_› ?_
       (try simp only [Act.put, yI, yZ, yS])
       refine tkO 12 (some 30) rfl (by kernel_rfl) ‹_› ?_
       (try simp only [Act.put, yI, yZ, yS])
       refine tkO 13 (some 31) rfl (by kernel_rfl) ‹_› ?_
       (try simp only [Act.put, yI, yZ, yS])
       refine tkO 14 (some 32) rfl (by kernel_rfl) ‹_› ?_
       (try simp only [Act.put, yI, yZ, yS])
       refine tkO 15 (some 33) rfl (by kernel_rfl) ‹_› ?_
       (try simp only [Act.put, yI, yZ, yS])
       refine tkO 16 (some 34) rfl (by kernel_rfl) ‹_› ?_
       (try simp only [Act.put, yI, yZ, yS])
       refine tkO 17 (some 35) rfl (by kernel_rfl) ‹_› ?_
       (try simp only [Act.put, yI, yZ, yS])
       refine tkO 18 (some 36) rfl (by kernel_rfl) ‹_› ?_
       (try simp only [Act.put, yI, yZ, yS])
       refine tkO 19 (some 37) rfl (by kernel_rfl) ‹_› ?_
       (try simp only [Act.put, yI, yZ, yS])
       refine tkO 20 (some 38) rfl (by kernel_rfl) ‹_› ?_
       (try simp only [Act.put, yI, yZ, yS])
       refine tkO 21 (some 39) rfl (by kernel_rfl) ‹_› ?_
       (try simp only [Act.put, yI, yZ, yS])
       refine tkA 22 (some 40) (Op.pick (Operand.tmp 28) (Operand.const (Value.bool true)) (Operand.tmp 39)) 4 (v := ?_) rfl (by kernel_rfl) ?_ ‹_› ?_
       rotate_left
       ·(intro w h; (try dsimp only at h); go_simp) <;> with_reducible rfl
       (try simp only [Act.put, yI, yZ, yS])
       refine tkA 23 (some 41) (Op.pick (Operand.tmp 25) (Operand.tmp 40) (Operand.const (Value.bool false))) 4 (v := ?_) rfl (by kernel_rfl) ?_ ‹_› ?_
       rotate_left
       ·(intro w h; (try dsimp only at h); go_simp) <;> with_reducible rfl
       (try simp only [Act.put, yI, yZ, yS])
       refine wpAnyH_done (by kernel_rfl) ?_ _
       refine NoPanic.normal ?_
       go_wp2_with fail
       go_meet
       exact ⟨by first | rfl | (simp; omega), BR.out.drew⟩
      case rest =>
       obtain ⟨rfl, bx⟩ := hcut
       go_wp2_with fail
       go_roundw
       case rel => exact ⟨m, (m : Int), by omega, by first | go_num | (simp; omega), rfl, HX.out, bx⟩
       case measure => simp [intOf]
     ·obtain ⟨j, hj⟩ : ∃ j, j = m + 1 + j0 := ⟨_, rfl⟩
      rw [← hj] at hv hj0
      have hs2 := hst.2.2 (by omega) j hj0 hv
      have c2 := (HC.out j hj0).2
      obtain ⟨y, hy⟩ : ∃ y, y = l[j].n := ⟨_, rfl⟩
      rw [← hy] at hs2 c2
      have D1 := Lib.hid c2
      have d2 := (BR.out.cell (lt_of_cell c2)).trans c2
      have hjz : j < z := by have := HZ.out; omega
      clear hst hy c2 hj0 hj
      by_cases t2 : x ≤ y
      ·have HX := Lib.hid (hs2.1 t2)
       clear hs2
       subst hv
       go_wp2_with fail
       go_cut [41] (fun v wx => v = .bool true ∧ Below w.heap.size w wx)
       case first =>
        have q1 : decide (n ≤ x) = true := by simp; omega
        have q2 : decide (x ≤ y) = true := by simp; omega
        refine wp_region_noPanic ?_
        refine wp_region_held_drew (S := fun W => W.cell? ⟨bl, o + m * 2 + 1, none⟩ = some (.int .i64 x) ∧ W.cell? ⟨bl, o + j * 2 + 1, none⟩ = some (.int .i64 y)) (by kernel_rfl) (⟨(BR.out.drew.cell (lt_of_cell C1.out)).trans C1.out, (BR.out.drew.cell (lt_of_cell D1.out)).trans D1.out⟩) (fun hHeld => ?_)
        refine tkA 0 (some 18) (Op.move (Operand.tmp 0)) 29 (v := ?_) rfl (by kernel_rfl) ?_ ‹_› ?_
        rotate_left
        ·(intro w h; (try dsimp only at h); go_simp) <;> with_reducible rfl
        (try simp only [Act.put, yI, yZ, yS])
        refine tkA 1 (some 19) (Op.move (Operand.tmp 6)) 3 (v := ?_) rfl (by kernel_rfl) ?_ ‹_› ?_
        rotate_left
        ·(intro w h; (try dsimp only at h); go_simp) <;> with_reducible rfl
        (try simp only [Act.put, yI, yZ, yS])
        refine tkA 2 (some 20) (Op.indexAddr 29 (Operand.tmp 18) (Operand.tmp 19)) 0 (v := ?_) rfl (by kernel_rfl) ?_ ‹_› ?_
        rotate_left
        ·(intro w h; (try dsimp only at h); go_simp) <;> with_reducible rfl
        (try simp only [Act.put, yI, yZ, yS])
        refine tkA 3 (some 21) (Op.fieldAddr 98 (Operand.tmp 20) 1) 0 (v := ?_) rfl (by kernel_rfl) ?_ ‹_› ?_
        rotate_left
        ·(intro w h; (try dsimp only at h); go_simp) <;> with_reducible rfl
        (try simp only [Act.put, yI, yZ, yS])
        refine tkA 4 (some 22) (Op.load 3 (Operand.tmp 21)) 3 (v := ?_) rfl (by kernel_rfl) ?_ ‹_› ?_
        rotate_left
        ·(intro w h; (try dsimp only at h); go_simp) <;> with_reducible rfl
        (try simp only [Act.put, yI, yZ, yS])
        refine tkA 5 (some 23) (Op.move (Operand.tmp 1)) 3 (v := ?_) rfl (by kernel_rfl) ?_ ‹_› ?_
        rotate_left
        ·(intro w h; (try dsimp only at h); go_simp) <;> with_reducible rfl
        (try simp only [Act.put, yI, yZ, yS])
        refine tkA 6 (some 24) (Op.binOp BinOp.geq 3 (Operand.tmp 22) (Operand.tmp 23) 3) 4 (v := ?_) rfl (by kernel_rfl) ?_ ‹_› ?_
        rotate_left
        ·(intro w h; (try dsimp only at h); go_simp) <;> with_reducible rfl
        (try simp only [Act.put, yI, yZ, yS])
        refine tkA 7 (some 25) (Op.move (Operand.tmp 24)) 4 (v := ?_) rfl (by kernel_rfl) ?_ ‹_› ?_
        rotate_left
        ·(intro w h; (try dsimp only at h); go_simp) <;> with_reducible rfl
        (try simp only [Act.put, yI, yZ, yS])
        refine tkA 8 (some 26) (Op.move (Operand.tmp 5)) 3 (v := ?_) rfl (by kernel_rfl) ?_ ‹_› ?_
        rotate_left
        ·(intro w h; (try dsimp only at h); go_simp) <;> with_reducible rfl
        (try simp only [Act.put, yI, yZ, yS])
        refine tkA 9 (some 27) (Op.binOp BinOp.lss 3 (Operand.tmp 26) (Operand.const (Value.int IntKind.i64 0)) 3) 4 (v := ?_) rfl (by kernel_rfl) ?_ ‹_› ?_
        rotate_left
        ·(intro w h; (try dsimp only at h); go_simp) <;> with_reducible rfl
        (try simp only [Act.put, yI, yZ, yS])
        refine tkA 10 (some 28) (Op.move (Operand.tmp 27)) 4 (v := ?_) rfl (by kernel_rfl) ?_ ‹_› ?_
        rotate_left
        ·(intro w h; (try dsimp only at h); go_simp) <;> with_reducible rfl
        (try simp only [Act.put, yI, yZ, yS])
        refine tkA 11 (some 29) (Op.move (Operand.tmp 0)) 29 (v := ?_) rfl (by kernel_rfl) ?_ ‹_› ?_
        rotate_left
        ·(intro w h; (try dsimp only at h); go_simp) <;> with_reducible rfl
        (try simp only [Act.put, yI, yZ, yS])
        refine tkA 12 (some 30) (Op.move (Operand.tmp 6)) 3 (v := ?_) rfl (by kernel_rfl) ?_ ‹_› ?_
        rotate_left
        ·(intro w h; (try dsimp only at h); go_simp) <;> with_reducible rfl
        (try simp only [Act.put, yI, yZ, yS])
        refine tkA 13 (some 31) (Op.indexAddr 29 (Operand.tmp 29) (Operand.tmp 30)) 0 (v := ?_) rfl (by kernel_rfl) ?_ ‹_› ?_
        rotate_left
        ·(intro w h; (try dsimp only at h); go_simp) <;> with_reducible rfl
        (try simp only [Act.put, yI, yZ, yS])
        refine tkA 14 (some 32) (Op.fieldAddr 98 (Operand.tmp 31) 1) 0 (v := ?_) rfl (by kernel_rfl) ?_ ‹_› ?_
        rotate_left
        ·(intro w h; (try dsimp only at h); go_simp) <;> with_reducible rfl
        (try simp only [Act.put, yI, yZ, yS])
        refine tkA 15 (some 33) (Op.load 3 (Operand.tmp 32)) 3 (v := ?_) rfl (by kernel_rfl) ?_ ‹_› ?_
        rotate_left
        ·(intro w h; (try dsimp only at h); go_simp) <;> with_reducible rfl
        (try simp only [Act.put, yI, yZ, yS])
        refine tkA 16 (some 34) (Op.move (Operand.tmp 0)) 29 (v := ?_) rfl (by kernel_rfl) ?_ ‹_› ?_
        rotate_left
        ·(intro w h; (try dsimp only at h); go_simp) <;> with_reducible rfl
        (try simp only [Act.put, yI, yZ, yS])
        refine tkA 17 (some 35) (Op.move (Operand.tmp 5)) 3 (v := ?_) rfl (by kernel_rfl) ?_ ‹_› ?_
        rotate_left
        ·(intro w h; (try dsimp only at h); go_simp) <;> with_reducible rfl
        (try simp only [Act.put, yI, yZ, yS])
        refine tkA 18 (some 36) (Op.indexAddr 29 (Operand.tmp 34) (Operand.tmp 35)) 0 (v := ?_) rfl (by kernel_rfl) ?_ ‹_› ?_
        rotate_left
        ·(intro w h; (try dsimp only at h); go_simp) <;> with_reducible rfl
        (try simp only [Act.put, yI, yZ, yS])
        refine tkA 19 (some 37) (Op.fieldAddr 98 (Operand.tmp 36) 1) 0 (v := ?_) rfl (by kernel_rfl) ?_ ‹_› ?_
        rotate_left
        ·(intro w h; (try dsimp only at h); go_simp) <;> with_reducible rfl
        (try simp only [Act.put, yI, yZ, yS])
        refine tkA 20 (some 38) (Op.load 3 (Operand.tmp 37)) 3 (v := ?_) rfl (by kernel_rfl) ?_ ‹_› ?_
        rotate_left
        ·(intro w h; (try dsimp only at h); go_simp) <;> with_reducible rfl
        (try simp only [Act.put, yI, yZ, yS])
        refine tkA 21 (some 39) (Op.binOp BinOp.leq 3 (Operand.tmp 33) (Operand.tmp 38) 3) 4 (v := ?_) rfl (by kernel_rfl) ?_ ‹_› ?_
        rotate_left
        ·(intro w h; (try dsimp only at h); go_simp) <;> with_reducible rfl
        (try simp only [Act.put, yI, yZ, yS])
        refine tkA 22 (some 40) (Op.pick (Operand.tmp 28) (Operand.const (Value.bool true)) (Operand.tmp 39)) 4 (v := ?_) rfl (by kernel_rfl) ?_ ‹_› ?_
        rotate_left
        ·(intro w h; (try dsimp only at h); go_simp) <;> with_reducible rfl
        (try simp only [Act.put, yI, yZ, yS])
        refine tkA 23 (some 41) (Op.pick (Operand.tmp 25) (Operand.tmp 40) (Operand.const (Value.bool false))) 4 (v := ?_) rfl (by kernel_rfl) ?_ ‹_› ?_
        rotate_left
        ·(intro w h; (try dsimp only at h); go_simp) <;> with_reducible rfl
        (try simp only [Act.put, yI, yZ, yS])
        refine wpAnyH_done (by kernel_rfl) ?_ _
        refine NoPanic.normal ?_
        go_wp2_with fail
        go_meet
        exact ⟨by first | rfl | (simp; omega), BR.out.drew⟩
       case rest =>
        obtain ⟨rfl, bx⟩ := hcut
        go_wp2_with fail
        go_roundw
        case rel => exact ⟨m, (m : Int), by omega, by first | go_num | (simp; omega), rfl, HX.out, bx⟩
        case measure => simp [intOf]
      ·have HX := Lib.hid (hs2.2 (by omega))
       clear hs2
       subst hv
       go_wp2_with fail
       go_cut [41] (fun v wx => v = .bool false ∧ Below w.heap.size w wx)
       case first =>
        have q1 : decide (n ≤ x) = true := by simp; omega
        have q2 : decide (x ≤ y) = false := by simp; omega
        refine wp_region_noPanic ?_
        refine wp_region_held_drew (S := fun W => W.cell? ⟨bl, o + m * 2 + 1, none⟩ = some (.int .i64 x) ∧ W.cell? ⟨bl, o + j * 2 + 1, none⟩ = some (.int .i64 y)) (by kernel_rfl) (⟨(BR.out.drew.cell (lt_of_cell C1.out)).trans C1.out, (BR.out.drew.cell (lt_of_cell D1.out)).trans D1.out⟩) (fun hHeld => ?_)
        refine tkA 0 (some 18) (Op.move (Operand.tmp 0)) 29 (v := ?_) rfl (by kernel_rfl) ?_ ‹_› ?_
        rotate_left
        ·(intro w h; (try dsimp only at h); go_simp) <;> with_reducible rfl
        (try simp only [Act.put, yI, yZ, yS])
        refine tkA 1 (some 19) (Op.move (Operand.tmp 6)) 3 (v := ?_) rfl (by kernel_rfl) ?_ ‹_› ?_
        rotate_left
        ·(intro w h; (try dsimp only at h); go_simp) <;> with_reducible rfl
        (try simp only [Act.put, yI, yZ, yS])
        refine tkA 2 (some 20) (Op.indexAddr 29 (Operand.tmp 18) (Operand.tmp 19)) 0 (v := ?_) rfl (by kernel_rfl) ?_ ‹_› ?_
        rotate_left
        ·(intro w h; (try dsimp only at h); go_simp) <;> with_reducible rfl
        (try simp only [Act.put, yI, yZ, yS])
        refine tkA 3 (some 21) (Op.fieldAddr 98 (Operand.tmp 20) 1) 0 (v := ?_) rfl (by kernel_rfl) ?_ ‹_› ?_
        rotate_left
        ·(intro w h; (try dsimp only at h); go_simp) <;> with_reducible rfl
        (try simp only [Act.put, yI, yZ, yS])
        refine tkA 4 (some 22) (Op.load 3 (Operand.tmp 21)) 3 (v := ?_) rfl (by kernel_rfl) ?_ ‹_› ?_
        rotate_left
        ·(intro w h; (try dsimp only at h); go_simp) <;> with_reducible rfl
        (try simp only [Act.put, yI, yZ, yS])
        refine tkA 5 (some 23) (Op.move (Operand.tmp 1)) 3 (v := ?_) rfl (by kernel_rfl) ?_ ‹_› ?_
        rotate_left
        ·(intro w h; (try dsimp only at h); go_simp) <;> with_reducible rfl
        (try simp only [Act.put, yI, yZ, yS])
        refine tkA 6 (some 24) (Op.binOp BinOp.geq 3 (Operand.tmp 22) (Operand.tmp 23) 3) 4 (v := ?_) rfl (by kernel_rfl) ?_ ‹_› ?_
        rotate_left
        ·(intro w h; (try dsimp only at h); go_simp) <;> with_reducible rfl
        (try simp only [Act.put, yI, yZ, yS])
        refine tkA 7 (some 25) (Op.move (Operand.tmp 24)) 4 (v := ?_) rfl (by kernel_rfl) ?_ ‹_› ?_
        rotate_left
        ·(intro w h; (try dsimp only at h); go_simp) <;> with_reducible rfl
        (try simp only [Act.put, yI, yZ, yS])
        refine tkA 8 (some 26) (Op.move (Operand.tmp 5)) 3 (v := ?_) rfl (by kernel_rfl) ?_ ‹_› ?_
        rotate_left
        ·(intro w h; (try dsimp only at h); go_simp) <;> with_reducible rfl
        (try simp only [Act.put, yI, yZ, yS])
        refine tkA 9 (some 27) (Op.binOp BinOp.lss 3 (Operand.tmp 26) (Operand.const (Value.int IntKind.i64 0)) 3) 4 (v := ?_) rfl (by kernel_rfl) ?_ ‹_› ?_
        rotate_left
        ·(intro w h; (try dsimp only at h); go_simp) <;> with_reducible rfl
        (try simp only [Act.put, yI, yZ, yS])
        refine tkA 10 (some 28) (Op.move (Operand.tmp 27)) 4 (v := ?_) rfl (by kernel_rfl) ?_ ‹_› ?_
        rotate_left
        ·(intro w h; (try dsimp only at h); go_simp) <;> with_reducible rfl
        (try simp only [Act.put, yI, yZ, yS])
        refine tkA 11 (some 29) (Op.move (Operand.tmp 0)) 29 (v := ?_) rfl (by kernel_rfl) ?_ ‹_› ?_
        rotate_left
        ·(intro w h; (try dsimp only at h); go_simp) <;> with_reducible rfl
        (try simp only [Act.put, yI, yZ, yS])
        refine tkA 12 (some 30) (Op.move (Operand.tmp 6)) 3 (v := ?_) rfl (by kernel_rfl) ?_ ‹_› ?_
        rotate_left
        ·(intro w h; (try dsimp only at h); go_simp) <;> with_reducible rfl
        (try simp only [Act.put, yI, yZ, yS])
        refine tkA 13 (some 31) (Op.indexAddr 29 (Operand.tmp 29) (Operand.tmp 30)) 0 (v := ?_) rfl (by kernel_rfl) ?_ ‹_› ?_
        rotate_left
        ·(intro w h; (try dsimp only at h); go_simp) <;> with_reducible rfl
        (try simp only [Act.put, yI, yZ, yS])
        refine tkA 14 (some 32) (Op.fieldAddr 98 (Operand.tmp 31) 1) 0 (v := ?_) rfl (by kernel_rfl) ?_ ‹_› ?_
        rotate_left
        ·(intro w h; (try dsimp only at h); go_simp) <;> with_reducible rfl
        (try simp only [Act.put, yI, yZ, yS])
        refine tkA 15 (some 33) (Op.load 3 (Operand.tmp 32)) 3 (v := ?_) rfl (by kernel_rfl) ?_ ‹_› ?_
        rotate_left
        ·(intro w h; (try dsimp only at h); go_simp) <;> with_reducible rfl
        (try simp only [Act.put, yI, yZ, yS])
        refine tkA 16 (some 34) (Op.move (Operand.tmp 0)) 29 (v := ?_) rfl (by kernel_rfl) ?_ ‹_› ?_
        rotate_left
        ·(intro w h; (try dsimp only at h); go_simp) <;> with_reducible rfl
        (try simp only [Act.put, yI, yZ, yS])
        refine tkA 17 (some 35) (Op.move (Operand.tmp 5)) 3 (v := ?_) rfl (by kernel_rfl) ?_ ‹_› ?_
        rotate_left
        ·(intro w h; (try dsimp only at h); go_simp) <;> with_reducible rfl
        (try simp only [Act.put, yI, yZ, yS])
        refine tkA 18 (some 36) (Op.indexAddr 29 (Operand.tmp 34) (Operand.tmp 35)) 0 (v := ?_) rfl (by kernel_rfl) ?_ ‹_› ?_
        rotate_left
        ·(intro w h; (try dsimp only at h); go_simp) <;> with_reducible rfl
        (try simp only [Act.put, yI, yZ, yS])
        refine tkA 19 (some 37) (Op.fieldAddr 98 (Operand.tmp 36) 1) 0 (v := ?_) rfl (by kernel_rfl) ?_ ‹_› ?_
        rotate_left
        ·(intro w h; (try dsimp only at h); go_simp) <;> with_reducible rfl
        (try simp only [Act.put, yI, yZ, yS])
        refine tkA 20 (some 38) (Op.load 3 (Operand.tmp 37)) 3 (v := ?_) rfl (by kernel_rfl) ?_ ‹_› ?_
        rotate_left
        ·(intro w h; (try dsimp only at h); go_simp) <;> with_reducible rfl
        (try simp only [Act.put, yI, yZ, yS])
        refine tkA 21 (some 39) (Op.binOp BinOp.leq 3 (Operand.tmp 33) (Operand.tmp 38) 3) 4 (v := ?_) rfl (by kernel_rfl) ?_ ‹_› ?_
        rotate_left
        ·(intro w h; (try dsimp only at h); go_simp) <;> with_reducible rfl
        (try simp only [Act.put, yI, yZ, yS])
        refine tkA 22 (some 40) (Op.pick (Operand.tmp 28) (Operand.const (Value.bool true)) (Operand.tmp 39)) 4 (v := ?_) rfl (by kernel_rfl) ?_ ‹_› ?_
        rotate_left
        ·(intro w h; (try dsimp only at h); go_simp) <;> with_reducible rfl
        (try simp only [Act.put, yI, yZ, yS])
        refine tkA 23 (some 41) (Op.pick (Operand.tmp 25) (Operand.tmp 40) (Operand.const (Value.bool false))) 4 (v := ?_) rfl (by kernel_rfl) ?_ ‹_› ?_
        rotate_left
        ·(intro w h; (try dsimp only at h); go_simp) <;> with_reducible rfl
        (try simp only [Act.put, yI, yZ, yS])
        refine wpAnyH_done (by kernel_rfl) ?_ _
        refine NoPanic.normal ?_
        go_wp2_with fail
        go_meet
        exact ⟨by first | rfl | (simp; omega), BR.out.drew⟩
       case rest =>
        obtain ⟨rfl, bx⟩ := hcut
        go_wp2_with fail
        go_roundw
        case rel => exact ⟨m, (j : Int), by omega, by first | go_num | (simp; omega), rfl, HX.out, bx⟩
        case measure => simp [intOf]
end Go.Proofs.YtmboibipabkhaaaGreat
