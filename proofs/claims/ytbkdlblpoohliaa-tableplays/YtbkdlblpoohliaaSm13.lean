/-
  The document's Same, of lists that are the same.
-/
import Derived.Test.YtbkdlblpoohliaaW13
import Derived.StillTailTactics
namespace Go.Proofs.Ytbkdlblpoohliaa
open Go.ChangeShapes Go.WideShapes Go.ChangeAt Go.RowKit Go.Deep T13
set_option linter.unusedVariables false
set_option maxRecDepth 20000

theorem hds_get {l : List Int} {j : Nat} (h : j < l.length) : ∃ q, (hds l)[j]'(by rw [hds_length]; exact h) = .int .u64 q := ⟨l[j], by simp [hds]⟩
set_option maxHeartbeats 2000000 in
theorem rsame_eq (w : World) (A A' : Option Addr) (n c n' c' : Nat) (l : List Int) (hn : n = l.length) (hn' : n' = l.length) (h : Lies w A (hds l)) (h' : Lies w A' (hds l)) (hl : n ≤ 1000000) :
    Calls Try.prog 19 #[.slice A n c, .slice A' n' c'] w fun e w' => e = .returned (.bool true) ∧ Below w.heap.size w w' := by
  obtain rfl : n' = n := by omega
  have HN := Lib.hid hn
  have H1 := Lib.hid h
  have H2 := Lib.hid h'
  have HB := Lib.hid (fun N => below_drewN' (Below.refl w.heap.size w) N)
  clear hn hn' h h'
  go_enter Try.func19, Try.ntmps19
  go_wp2_with fail
  go_loopw [5] (fun i wr => ∃ (k N : Nat), k ≤ n' ∧ i = .int .i64 (k : Int) ∧ wr = w.drewN N) (fun i _ => n' - (intOf i).toNat)
  case atStart => exact ⟨0, 0, by omega, rfl, rfl⟩
  case round =>
    obtain ⟨k, N, hk, rfl, rfl⟩ := hrel
    by_cases hlt : k < n'
    · have hkl : k < (hds l).length := by rw [hds_length]; have := HN.out; omega
      obtain ⟨ad, rfl, hc⟩ := H1.out (by omega)
      obtain ⟨ad', rfl, hc'⟩ := H2.out (by omega)
      obtain ⟨q, hq⟩ := hds_get (l := l) (j := k) (by have := HN.out; omega)
      have c0 : (w.drewN N).drew.cell? (ad.add k) = some (.int .u64 q) := by rw [← hq]; exact hc k hkl
      have c1 : (w.drewN N).drew.cell? (ad'.add k) = some (.int .u64 q) := by rw [← hq]; exact hc' k hkl
      have c2 : w.cell? (ad.add k) = some (.int .u64 q) := c0
      have c3 : w.cell? (ad'.add k) = some (.int .u64 q) := c1
      clear hc hc' hq hkl
      go_wp2_with fail
      go_quiet (fail)
      go_wp2_with fail
      go_roundw
      case rel => exact ⟨k + 1, _, by omega, by go_num, rfl⟩
      case measure => simp [intOf]; omega
    · go_wp2_with fail
      go_ret
      exact ⟨rfl, HB.out _⟩
end Go.Proofs.Ytbkdlblpoohliaa
