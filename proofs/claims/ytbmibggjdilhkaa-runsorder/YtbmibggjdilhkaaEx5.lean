/-
  The document's examples; few.
-/
import Derived.Test.YtbmibggjdilhkaaGive6
import Derived.Test.YtbmibggjdilhkaaRef5
namespace Go.Proofs.Ytbmibggjdilhkaa
open Go.ChangeShapes Go.WideShapes Go.ChangeAt Go.RowKit Go.Deep
set_option linter.unusedVariables false
set_option maxRecDepth 20000

def fewB (l : List M.R) : Bool := decide (l.length ≤ 60) && M.okB (-1) 1073741824 l
theorem fewB_iff (l : List M.R) : fewB l = true ↔ l.length ≤ 60 ∧ M.Ok (-1) 1073741824 l := by
  unfold fewB
  simp only [Bool.and_eq_true, decide_eq_true_eq, M.okB_iff]

set_option maxHeartbeats 1000000 in
theorem few_any (w : World) (A : Option Addr) (l : List M.R) (z c : Nat) (hz : z = l.length) (hA : Runs w A l) (hl : z ≤ 9223372036854775807) :
    Calls Try.prog 14 #[.slice A z c] w fun e w' => e = .returned (.bool (fewB l)) ∧ Below w.heap.size w w' := by
  have HC := Lib.hid (rright_any w A l z c hz hA hl 1073741824 (by omega))
  have HZ := Lib.hid hz
  clear hz hA
  go_enter Try.func14, Try.ntmps14
  by_cases h : z ≤ 60
  · have HE := Lib.hid (show fewB l = M.okB (-1) 1073741824 l by unfold fewB; rw [show decide (l.length ≤ 60) = true by have := HZ.out; simp; omega, Bool.true_and])
    have d1 : decide ((z : Int) ≤ 60) = true := by simp; omega
    go_wp2_with (go_at_call 13; refine HC.out.mono ?_; rintro e w2 ⟨rfl, b2⟩)
    go_ret
    exact ⟨retB HE.out.symm, b2⟩
  · have HE := Lib.hid (show fewB l = false by unfold fewB; rw [show decide (l.length ≤ 60) = false by have := HZ.out; simp; omega, Bool.false_and])
    have d1 : decide ((z : Int) ≤ 60) = false := by simp; omega
    go_wp2_with fail
    go_ret
    exact ⟨retB HE.out.symm, Below.refl _ _⟩

def ex0 : List M.R := [⟨0, 2⟩, ⟨5, 1⟩]
def ex1 : List M.R := [⟨5, 1⟩]
def ex2 : List M.R := [⟨0, 2⟩, ⟨3, 3⟩]
theorem runs_two (w : World) (t : TypeId) (p q r s : Int) : Runs (w.alloc (.cells #[.int .i64 p, .int .i64 q, .int .i64 r, .int .i64 s] t)) (some ⟨w.heap.size, 0, none⟩) [⟨p, q⟩, ⟨r, s⟩] := fun _ => ⟨w.heap.size, 0, rfl, fun i hi => by
  rw [World.cell?_alloc_mark, World.cell?_alloc_mark]
  match i, hi with
  | 0, _ => exact ⟨rfl, rfl⟩
  | 1, _ => exact ⟨rfl, rfl⟩⟩
theorem runs_one (w : World) (t : TypeId) (p q : Int) : Runs (w.alloc (.cells #[.int .i64 p, .int .i64 q] t)) (some ⟨w.heap.size, 0, none⟩) [⟨p, q⟩] := fun _ => ⟨w.heap.size, 0, rfl, fun i hi => by
  rw [World.cell?_alloc_mark, World.cell?_alloc_mark]
  match i, hi with
  | 0, _ => exact ⟨rfl, rfl⟩⟩
theorem ex0_ok : M.Ok (-1) 1073741824 ex0 := (M.okB_iff _ _ _).1 (by decide)

section
variable (w : World) (A : Option Addr) (c : Nat) (hA : Runs w A ex0)
include hA
theorem ex_take : Calls Try.prog 15 #[.slice A 2 c, .int .i64 2] w (GotT w 0 ex1 true) := by
  have h := take_any w A ex0 2 c rfl hA (by omega) ex0_ok 2
  rw [show takeP ex0 2 = 0 by decide, show takeL ex0 2 = ex1 by decide, show takeB ex0 2 = true by decide] at h
  exact h
theorem ex_give : Calls Try.prog 22 #[.slice A 2 c, .int .i64 8, .int .i64 3, .int .i64 2] w (GotG w ex2 true) := by
  have h := give_any w A ex0 2 c rfl hA (by omega) ex0_ok 8 3 2 (by omega) (by omega)
  rw [show giveL ex0 8 3 2 = ex2 by decide, show giveB ex0 8 3 2 = true by decide] at h
  exact h
theorem ex_best : Calls Try.prog 19 #[.slice A 2 c, .int .i64 1] w fun e w' => e = .returned (.int .i64 1) ∧ Below w.heap.size w w' := by
  have h := best_any w A ex0 2 c rfl hA (by omega) 1
  rw [show M.best 1 ex0 = 1 by decide] at h
  exact h
theorem ex_right : Calls Try.prog 12 #[.slice A 2 c, .int .i64 6] w fun e w' => e = .returned (.bool true) ∧ Below w.heap.size w w' := by
  have h := right_any w A ex0 2 c rfl hA (by omega) 6 (by omega)
  rw [show M.okB (-1) 6 ex0 = true by decide] at h
  exact h
theorem ex_total : Calls Try.prog 17 #[.slice A 2 c] w fun e w' => e = .returned (.int .i64 3) ∧ Below w.heap.size w w' := by
  have h := total_any w A ex0 2 c rfl hA (by omega) ex0_ok
  rw [show M.total ex0 = 3 by decide] at h
  exact h
theorem ex_has : Calls Try.prog 24 #[.slice A 2 c, .int .i64 5, .int .i64 1] w fun e w' => e = .returned (.bool true) ∧ Below w.heap.size w w' := by
  have h := has_any w A ex0 2 c rfl hA (by omega) ex0_ok 5 1 (by omega) (by omega) (by omega)
  rw [show M.has ex0 5 1 = true by decide] at h
  exact h
end

end Go.Proofs.Ytbmibggjdilhkaa
