/-
  The document's Has.
-/
import Derived.Test.YtmboibipabkhaaaGreatKxK1
namespace Go.Proofs.YtmboibipabkhaaaGreat
open Go.ChangeShapes Go.WideShapes Go.ChangeAt Go.RowKit Go.Deep
set_option linter.unusedVariables false
set_option maxRecDepth 20000
set_option maxHeartbeats 4000000 in
theorem rhas_any (w : World) (A : Option Addr) (l : List M.R) (z c : Nat) (hz : z = l.length) (hA : Runs w A l) (hl : z ≤ 9223372036854775807) (hok : M.Ok (-1) 1073741824 l) (pg n : Int) (hp1 : -9223372036854775808 ≤ pg) (hp2 : pg ≤ 9223372036854775807) (hn1 : -9223372036854775808 ≤ n) (hn2 : n ≤ 9223372036854775807) :
  Calls Tryz.prog 95 #[.slice A z c, .int .i64 pg, .int .i64 n] w fun e w' => e = .returned (.bool (M.hasR l pg n)) ∧ Below w.heap.size w w' := by
 have HZ := Lib.hid hz
 have HA := Lib.hid hA
 have HO := Lib.hid hok
 clear hz hA hok
 go_enter Tryz.func95, Tryz.ntmps95
 go_wp2_with fail
 go_loopw [7] (fun i wr => ∃ k : Nat, k ≤ z ∧ i = .int .i64 (k : Int) ∧ (1 ≤ n → ∀ j (h : j < l.length), j < k → hit l[j] pg n = false) ∧ Below w.heap.size w wr) (fun i _ => z - (intOf i).toNat)
 case atStart => exact ⟨0, by omega, rfl, fun _ j _ h => by omega, Below.refl _ _⟩
 case round =>
  obtain ⟨k, hk, rfl, hg, hb⟩ := hrel
  have HB := Lib.hid hb
  have HG := Lib.hid hg
  clear hb hg
  by_cases hlt : k < z
  ·by_cases hn0 : n < 1
   ·go_wp2_with fail
    go_ret
    exact ⟨retB (has_small hn0).symm, HB.out⟩
   have hkl : k < l.length := by have := HZ.out; omega
   obtain ⟨bl, o, rfl, hc⟩ := HA.out (by omega)
   have c0 := (hc k hkl).1
   have c1 := (hc k hkl).2
   have b0 := ok_at HO.out k hkl
   have yes := has_yes (l := l) (p := pg) (n := n) (by omega) k hkl
   have nxt : hit l[k] pg n = false → 1 ≤ n → ∀ j (h : j < l.length), j < k + 1 → hit l[j] pg n = false := fun h h' j hj hjk => by
    rcases Nat.lt_or_ge j k with h1 | h1
    ·exact HG.out h' j hj h1
    ·obtain rfl : j = k := by omega
     exact h
   obtain ⟨x, hx⟩ : ∃ x, x = l[k] := ⟨_, rfl⟩
   rw [← hx] at c0 c1 b0 yes nxt
   obtain ⟨p, m⟩ := x
   simp only at c0 c1 b0
   have hit' : hit ⟨p, m⟩ pg n = (decide (pg < p + m) && decide (p - n < pg)) := rfl
   have d0 := (HB.out.cell (lt_of_cell c0)).trans c0
   have d1 := (HB.out.cell (lt_of_cell c1)).trans c1
   have YES := Lib.hid yes
   have NXT := Lib.hid nxt
   have HIT := Lib.hid hit'
   have BN := Lib.hid (show Below w.heap.size w (wr.alloc (.cells #[.int .i64 p, .int .i64 m] 98)) from HB.out.alloc HB.out.size _)
   have hw3 : wrap64 (p + m) = p + m := by unfold wrap64; omega
   clear hx hc c0 c1 hk yes nxt hit' HG hkl
   by_cases t0 : 0 ≤ pg
   ·have hw1 : wrap64 (p - pg) = p - pg := by unfold wrap64; omega
    clear b0
    by_cases t1 : p - pg < n
    ·by_cases t2 : pg < p + m
     ·go_wp2_with fail
      go_ret
      exact ⟨retB (YES.out (by rw [HIT.out]; simp; omega)).symm, BN.out⟩
     ·go_wp2_with fail
      go_roundw
      case rel => exact ⟨k + 1, by omega, by go_num, NXT.out (by rw [HIT.out, show decide (pg < p + m) = false by simp; omega, Bool.false_and]), BN.out⟩
      case measure => simp [intOf]; omega
    ·have nx := NXT.out (by rw [HIT.out, show decide (p - n < pg) = false by simp; omega, Bool.and_false])
     have NX := Lib.hid nx
     clear nx
     by_cases t2 : pg < p + m
     ·go_wp2_with fail
      go_roundw
      case rel => exact ⟨k + 1, by omega, by go_num, NX.out, BN.out⟩
      case measure => simp [intOf]; omega
     ·go_wp2_with fail
      go_roundw
      case rel => exact ⟨k + 1, by omega, by go_num, NX.out, BN.out⟩
      case measure => simp [intOf]; omega
   ·have hw2 : wrap64 (pg + n) = pg + n := by unfold wrap64; omega
    have t2 : pg < p + m := by omega
    have t0' : pg < 0 := by omega
    clear b0
    by_cases t1 : p < pg + n
    ·go_wp2_with fail
     go_ret
     exact ⟨retB (YES.out (by rw [HIT.out]; simp; omega)).symm, BN.out⟩
    ·have nx := NXT.out (by rw [HIT.out, show decide (p - n < pg) = false by simp; omega, Bool.and_false])
     have NX := Lib.hid nx
     clear nx
     go_wp2_with fail
     go_roundw
     case rel => exact ⟨k + 1, by omega, by go_num, NX.out, BN.out⟩
     case measure => simp [intOf]; omega
  ·have hres : M.hasR l pg n = false := by
    by_cases hn0 : n < 1
    ·exact has_small hn0
    ·exact has_no (fun j hj => HG.out (by omega) j hj (by have := HZ.out; omega))
   have HRS := Lib.hid hres
   clear hres
   go_wp2_with fail
   go_ret
   exact ⟨retB HRS.out.symm, HB.out⟩
end Go.Proofs.YtmboibipabkhaaaGreat
