/-
  The program's functions that only read a list of runs: Total, Has, Best, Right.
-/
import Derived.Test.YtloiomfbmabfbaaRow5
namespace Go.Proofs.Ytloiomfbmabfbaa
open Go.ChangeShapes Go.WideShapes Go.ChangeAt Go.RowKit Go.Deep
set_option linter.unusedVariables false
set_option maxRecDepth 20000

theorem ok_at {a N : Int} {l : List M.R} (h : M.Ok a N l) (k : Nat) (hk : k < l.length) : a < l[k].p ∧ 0 ≤ l[k].p ∧ 1 ≤ l[k].n ∧ l[k].p + l[k].n ≤ N := h.mem _ (List.getElem_mem hk)
theorem total_between {N : Int} {l : List M.R} (h : M.Ok (-1) N l) (hN : 0 ≤ N) (k : Nat) : 0 ≤ M.total (l.take k) ∧ M.total (l.take k) ≤ N + 1 := ⟨M.total_nonneg (h.take k), by have := M.total_le (h.take k) (by omega); omega⟩

set_option maxHeartbeats 1000000 in
theorem total_any (w : World) (A : Option Addr) (l : List M.R) (z c : Nat) (hz : z = l.length) (hA : Runs w A l) (hl : z ≤ 9223372036854775807) (hok : M.Ok (-1) 1073741824 l) :
    Calls Try.prog 30 #[.slice A z c] w fun e w' => e = .returned (.int .i64 (M.total l)) ∧ Below w.heap.size w w' := by
  have HZ := Lib.hid hz
  have HA := Lib.hid hA
  have HO := Lib.hid hok
  clear hz hA hok
  go_enter Try.func30, Try.ntmps30
  go_wp2_with fail
  go_loopw [3, 8] (fun t i wr => ∃ k : Nat, k ≤ z ∧ i = .int .i64 (k : Int) ∧ t = .int .i64 (M.total (l.take k)) ∧ Below w.heap.size w wr) (fun t i _ => z - (intOf i).toNat)
  case atStart => exact ⟨0, by omega, rfl, rfl, Below.refl _ _⟩
  case round =>
    obtain ⟨k, hk, rfl, rfl, hb⟩ := hrel
    have HB := Lib.hid hb
    clear hb
    obtain ⟨T, hT⟩ : ∃ T, T = M.total (l.take k) := ⟨_, rfl⟩
    rw [← hT]
    have HT := Lib.hid hT
    clear hT
    by_cases hlt : k < z
    · have hkl : k < l.length := by have := HZ.out; omega
      obtain ⟨bl, o, rfl, hc⟩ := HA.out (by omega)
      have c0 := (hc k hkl).1
      have c1 := (hc k hkl).2
      obtain ⟨x, hx⟩ : ∃ x, x = l[k] := ⟨_, rfl⟩
      rw [← hx] at c0 c1
      have b0 := ok_at HO.out k hkl
      have b1 := total_between HO.out (by omega) k
      have e1 := M.total_take_succ l k hkl
      rw [← hx] at b0 e1
      rw [← HT.out] at b1 e1
      obtain ⟨p, hp⟩ : ∃ p, p = x.p := ⟨_, rfl⟩
      obtain ⟨n, hn⟩ : ∃ n, n = x.n := ⟨_, rfl⟩
      rw [← hp] at c0
      rw [← hn] at c1 e1
      have s1 : wrap64 (T + n) = T + n := by unfold wrap64; omega
      have HE := Lib.hid e1
      have d0 := (HB.out.cell (lt_of_cell c0)).trans c0
      have d1 := (HB.out.cell (lt_of_cell c1)).trans c1
      clear hx b0 b1 e1 hp hn hc c0 c1 hk
      go_wp2_with fail
      go_roundw
      case rel => exact ⟨k + 1, by omega, by go_num, by rw [HE.out, s1], HB.out.alloc HB.out.size _⟩
      case measure => simp [intOf]; omega
    · go_wp2_with fail
      go_ret
      have e : l.take k = l := List.take_of_length_le (by have := HZ.out; omega)
      exact ⟨ret1 (by rw [HT.out, e]), HB.out⟩

def hit (r : M.R) (p n : Int) : Bool := decide (p < r.p + r.n) && decide (r.p - n < p)
theorem has_eq (l : List M.R) (p n : Int) : M.has l p n = (decide (1 ≤ n) && l.any (fun r => hit r p n)) := rfl
theorem has_yes {l : List M.R} {p n : Int} (hn : 1 ≤ n) (k : Nat) (hk : k < l.length) (h : hit l[k] p n = true) : M.has l p n = true := by
  rw [has_eq]
  simp only [Bool.and_eq_true, decide_eq_true_eq, List.any_eq_true]
  exact ⟨hn, l[k], List.getElem_mem hk, h⟩
theorem has_no {l : List M.R} {p n : Int} (h : ∀ j (h : j < l.length), hit l[j] p n = false) : M.has l p n = false := by
  rw [has_eq]
  have : l.any (fun r => hit r p n) = false := by
    rw [List.any_eq_false]
    intro r hr
    obtain ⟨j, hj, rfl⟩ := List.getElem_of_mem hr
    rw [h j hj]
    simp
  rw [this, Bool.and_false]
theorem has_small {l : List M.R} {p n : Int} (h : n < 1) : M.has l p n = false := by
  rw [has_eq]
  have : decide (1 ≤ n) = false := by simp; omega
  rw [this, Bool.false_and]

set_option maxHeartbeats 1000000 in
theorem has_any (w : World) (A : Option Addr) (l : List M.R) (z c : Nat) (hz : z = l.length) (hA : Runs w A l) (hl : z ≤ 9223372036854775807) (hok : M.Ok (-1) 1073741824 l) (pg n : Int) (hp1 : -9223372036854775808 ≤ pg) (hp2 : pg ≤ 9223372036854775807) (hn2 : n ≤ 9223372036854775807) :
    Calls Try.prog 36 #[.slice A z c, .int .i64 pg, .int .i64 n] w fun e w' => e = .returned (.bool (M.has l pg n)) ∧ Below w.heap.size w w' := by
  have HZ := Lib.hid hz
  have HA := Lib.hid hA
  have HO := Lib.hid hok
  clear hz hA hok
  go_enter Try.func36, Try.ntmps36
  by_cases hn1 : n < 1
  · go_wp2_with fail
    go_ret
    exact ⟨retB (by rw [has_small hn1]), Below.refl _ _⟩
  go_wp2_with fail
  go_loopw [13] (fun i wr => ∃ k : Nat, k ≤ z ∧ i = .int .i64 (k : Int) ∧ (∀ j (h : j < l.length), j < k → hit l[j] pg n = false) ∧ Below w.heap.size w wr) (fun i _ => z - (intOf i).toNat)
  case atStart => exact ⟨0, by omega, rfl, fun j _ h => by omega, Below.refl _ _⟩
  case round =>
    obtain ⟨k, hk, rfl, hg, hb⟩ := hrel
    have HB := Lib.hid hb
    have HG := Lib.hid hg
    clear hb hg
    by_cases hlt : k < z
    · have hkl : k < l.length := by have := HZ.out; omega
      obtain ⟨bl, o, rfl, hc⟩ := HA.out (by omega)
      have c0 := (hc k hkl).1
      have c1 := (hc k hkl).2
      have b0 := ok_at HO.out k hkl
      have yes := has_yes (l := l) (p := pg) (n := n) (by omega) k hkl
      have nxt : hit l[k] pg n = false → ∀ j (h : j < l.length), j < k + 1 → hit l[j] pg n = false := fun h j hj hjk => by
        rcases Nat.lt_or_ge j k with h1 | h1
        · exact HG.out j hj h1
        · have e : j = k := by omega
          subst e
          exact h
      obtain ⟨x, hx⟩ : ∃ x, x = l[k] := ⟨_, rfl⟩
      rw [← hx] at c0 c1 b0 yes nxt
      obtain ⟨p, m⟩ := x
      simp only at c0 c1 b0
      obtain ⟨s, hs⟩ : ∃ s, p + m = s := ⟨_, rfl⟩
      obtain ⟨d, hd⟩ : ∃ d, d = p - n := ⟨_, rfl⟩
      have hit' : hit ⟨p, m⟩ pg n = (decide (pg < s) && decide (d < pg)) := by rw [← hs, hd]; rfl
      have s1 : wrap64 (p - n) = d := by unfold wrap64; omega
      have HS := Lib.hid (show p + m = s ∧ -9223372036854775808 ≤ s ∧ s ≤ 9223372036854775807 from ⟨hs, by omega, by omega⟩)
      have d0 := (HB.out.cell (lt_of_cell c0)).trans c0
      have d1 := (HB.out.cell (lt_of_cell c1)).trans c1
      have YES := Lib.hid yes
      have NXT := Lib.hid nxt
      have HIT := Lib.hid hit'
      clear hx b0 hs hd hc c0 c1 hk yes nxt hit' HG
      by_cases t1 : pg < s
      · by_cases t2 : d < pg
        · go_wp2_with (go_at_call 34; refine (end_any _ p m s HS.out.1 HS.out.2.1 HS.out.2.2).mono ?_; rintro e w5 ⟨rfl, hb5⟩; (have q0 : w5.cell? ⟨wr.heap.size, 0, none⟩ = some (.int .i64 p) := (hb5.cell (p := ⟨wr.heap.size, 0, none⟩) (by simp)).trans (by rw [World.cell?_alloc_mark]; rfl)); (have B5 := Lib.hid (below_call (HB.out.alloc HB.out.size _) (hb5.mono (by simp)))); clear hb5)
          go_ret
          exact ⟨retB (YES.out (by rw [HIT.out]; simp [t1, t2])).symm, B5.out⟩
        · go_wp2_with (go_at_call 34; refine (end_any _ p m s HS.out.1 HS.out.2.1 HS.out.2.2).mono ?_; rintro e w5 ⟨rfl, hb5⟩; (have q0 : w5.cell? ⟨wr.heap.size, 0, none⟩ = some (.int .i64 p) := (hb5.cell (p := ⟨wr.heap.size, 0, none⟩) (by simp)).trans (by rw [World.cell?_alloc_mark]; rfl)); (have B5 := Lib.hid (below_call (HB.out.alloc HB.out.size _) (hb5.mono (by simp)))); clear hb5)
          go_roundw
          case rel => exact ⟨k + 1, by omega, by go_num, NXT.out (by rw [HIT.out]; simp [t1, t2]), B5.out⟩
          case measure => simp [intOf]; omega
      · go_wp2_with (go_at_call 34; refine (end_any _ p m s HS.out.1 HS.out.2.1 HS.out.2.2).mono ?_; rintro e w5 ⟨rfl, hb5⟩; (have B5 := Lib.hid (below_call (HB.out.alloc HB.out.size _) (hb5.mono (by simp)))); clear hb5)
        go_roundw
        case rel => exact ⟨k + 1, by omega, by go_num, NXT.out (by rw [HIT.out, show decide (pg < s) = false by simp; omega, Bool.false_and]), B5.out⟩
        case measure => simp [intOf]; omega
    · go_wp2_with fail
      go_ret
      exact ⟨retB (has_no (fun j hj => HG.out j hj (by have := HZ.out; omega))).symm, HB.out⟩

end Go.Proofs.Ytloiomfbmabfbaa
