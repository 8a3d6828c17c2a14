/-
  What the small functions of package space come to, and those of bits that it calls.
-/
import Derived.Test.YtacognejefeboaaTurn
import Derived.StillTailTactics
namespace Go.Proofs.Ytacognejefeboaa
open Go.ChangeShapes Go.WideShapes Go.ChangeAt Go.RowKit
set_option linter.unusedVariables false
set_option maxRecDepth 20000

theorem add_any (a b : Nat) (ha : a < 18446744073709551616) (hb : b < 18446744073709551616) (w : World) :
    Calls Try.prog 67 #[.int .u64 a, .int .u64 b] w fun e w' => e = .returned (.tuple #[.int .u64 (M.addV a b : Nat), .bool (M.addB a b)]) ∧ w = w' := by
  have hw := wrapU ((a : Int) + b)
  have H := Lib.hid hw; clear hw
  go_enter Try.func67, Try.ntmps67
  go_wp2
  · rename_i h
    go_ret2
    have := H.out
    have hlt : ¬ (a + b < 18446744073709551616) := by omega
    exact ⟨ret2 (by simp [M.addV, hlt]) (by simp [M.addB]; omega), rfl⟩
  · rename_i h
    go_ret2
    have := H.out
    have hlt : a + b < 18446744073709551616 := by omega
    exact ⟨ret2 (by simp [M.addV, hlt]; omega) (by simp [M.addB]; omega), rfl⟩
theorem in_any (a b z : Nat) (ha : a < 18446744073709551616) (hb : b < 18446744073709551616) (w : World) :
    Calls Try.prog 58 #[.int .u64 a, .int .u64 b, .int .u64 z] w fun e w' => e = .returned (.bool (M.inB a b z)) ∧ w = w' := by
  go_enter Try.func58, Try.ntmps58
  go_wp2_with (go_at_call 67; refine (add_any _ _ ha hb _).mono ?_; rintro e w' ⟨rfl, rfl⟩)
  all_goals go_ret
  all_goals exact ⟨retB (by simp [M.inB, *]), rfl⟩

theorem pages_any {w : World} {s m P T : Nat} {G : Pgs} (h : IsSp w s m P T G) :
    Calls Try.prog 49 #[.pointer (some ⟨s, 0, none⟩)] w fun e w' => e = .returned (.int .i64 (P : Int)) ∧ w = w' := by
  have c0 := h.c0
  clear h
  go_enter Try.func49, Try.ntmps49
  go_wp2
  go_ret
  exact ⟨rfl, rfl⟩
theorem pages_nil (w : World) : Calls Try.prog 49 #[.pointer none] w fun e w' => e = .returned (.int .i64 0) ∧ w = w' := by
  go_enter Try.func49, Try.ntmps49
  go_wp2
  go_ret
  exact ⟨rfl, rfl⟩
theorem ticks_any {w : World} {s m P T : Nat} {G : Pgs} (h : IsSp w s m P T G) :
    Calls Try.prog 23 #[.pointer (some ⟨s, 0, none⟩)] w fun e w' => e = .returned (.int .i64 (T : Int)) ∧ w = w' := by
  have c2 := h.c2
  clear h
  go_enter Try.func23, Try.ntmps23
  go_wp2
  go_ret
  exact ⟨rfl, rfl⟩
theorem ticks_nil (w : World) : Calls Try.prog 23 #[.pointer none] w fun e w' => e = .returned (.int .i64 0) ∧ w = w' := by
  go_enter Try.func23, Try.ntmps23
  go_wp2
  go_ret
  exact ⟨rfl, rfl⟩
theorem size_any {w : World} {s m P T : Nat} {G : Pgs} (h : IsSp w s m P T G) :
    Calls Try.prog 59 #[.pointer (some ⟨s, 0, none⟩)] w fun e w' => e = .returned (.int .u64 ((P * 4096 : Nat) : Int)) ∧ w = w' := by
  have ht := h.top
  go_enter Try.func59, Try.ntmps59
  go_wp2_with (go_at_call 49; refine (pages_any h).mono ?_; rintro e w' ⟨rfl, rfl⟩)
  go_ret
  exact ⟨ret1 (by omega), rfl⟩
theorem size_nil (w : World) : Calls Try.prog 59 #[.pointer none] w fun e w' => e = .returned (.int .u64 0) ∧ w = w' := by
  go_enter Try.func59, Try.ntmps59
  go_wp2_with (go_at_call 49; refine (pages_nil _).mono ?_; rintro e w' ⟨rfl, rfl⟩)
  go_ret
  exact ⟨rfl, rfl⟩
theorem within_any {w : World} {s m P T : Nat} {G : Pgs} (h : IsSp w s m P T G) (a n : Nat) (ha : a < 18446744073709551616) (hn : n < 18446744073709551616) :
    Calls Try.prog 41 #[.pointer (some ⟨s, 0, none⟩), .int .u64 a, .int .u64 n] w fun e w' => e = .returned (.bool (M.inB a n (P * 4096))) ∧ w = w' := by
  go_enter Try.func41, Try.ntmps41
  go_wp2_with fail
  refine (size_any h).mono ?_
  rintro e w' ⟨rfl, rfl⟩
  go_wp2_with fail
  refine (in_any _ _ _ ha hn _).mono ?_
  rintro e w' ⟨rfl, rfl⟩
  go_wp2
  go_ret
  exact ⟨rfl, rfl⟩
theorem within_nil (w : World) (a n : Nat) :
    Calls Try.prog 41 #[.pointer none, .int .u64 a, .int .u64 n] w fun e w' => e = .returned (.bool false) ∧ w = w' := by
  go_enter Try.func41, Try.ntmps41
  go_wp2
  go_ret
  exact ⟨rfl, rfl⟩
theorem key_any (k : Nat) (hk : k < 4503599627370496) (w : World) :
    Calls Try.prog 60 #[.int .u64 (k : Int)] w fun e w' => e = .returned (keyV k) ∧ Below w.heap.size w w' := by
  go_enter Try.func60, Try.ntmps60
  go_wp2
  refine bodyPost_ret (v := .agg #[.int .i64 ((k : Int) / 1024), .int .i64 ((k : Int) % 1024)]) ?_ rfl ?_
  · simp [results, go_sem]
  refine ⟨?_, (Below.refl _ _).alloc (Nat.le_refl _) _⟩
  simp [keyV]
theorem isSp_made (w : World) (P : Nat) (h1 : 1 ≤ P) (h2 : P ≤ 1048576) (x : Int) (hx : x = (P : Int)) :
    IsSp ((w.alloc (.map #[] 0)).alloc (.cells #[.int .i64 x, .map (some w.heap.size), .int .i64 0] 67)) (w.heap.size + 1) w.heap.size P 0 (fun _ => none) := by
  subst hx
  have hs : (w.alloc (.map #[] 0)).heap.size = w.heap.size + 1 := by simp
  have c : ∀ o, ((w.alloc (.map #[] 0)).alloc (.cells #[.int .i64 (P : Int), .map (some w.heap.size), .int .i64 0] 67)).cell? ⟨w.heap.size + 1, o, none⟩ = (#[.int .i64 (P : Int), .map (some w.heap.size), .int .i64 0] : Array Value)[o]? := fun o => by
    rw [← hs]; exact World.cell?_alloc_mark _ _ _ _ _
  have f : ∀ o, ((w.alloc (.map #[] 0)).alloc (.cells #[.int .i64 (P : Int), .map (some w.heap.size), .int .i64 0] 67)).frozen? ⟨w.heap.size + 1, o, none⟩ = false := fun o => by
    rw [← hs, World.frozen?_alloc_mark]; simp
  have hm : ((w.alloc (.map #[] 0)).alloc (.cells #[.int .i64 (P : Int), .map (some w.heap.size), .int .i64 0] 67)).ownsMap Try.prog 90 pageEl w.heap.size 0 (.map []) :=
    (World.ownsMap_made w Try.prog 90 pageEl).alloc _
  refine ⟨(c 0).trans rfl, (c 1).trans rfl, (c 2).trans rfl, f 2, ⟨.map [], hm, fun k _ zd => rfl, fun kl h => ?_, ?_⟩, h1, h2, fun k g l e => ?_, fun k j g l l' e => ?_⟩
  · simp [Maps.has] at h
  · have : ∀ n, cntOf (fun _ => none) n = 0 := fun n => by
      induction n with
      | zero => rfl
      | succ n ih => unfold cntOf; rw [ih]; rfl
    rw [this]
    rfl
  · cases e
  · cases e
theorem new_any (x : Int) (P : Nat) (hP : (P : Int) = min (max x 1) 1048576) (w : World) :
    Calls Try.prog 10 #[.int .i64 x] w fun e w' => ∃ s m, e = .returned (.pointer (some ⟨s, 0, none⟩)) ∧ IsSp w' s m P 0 (fun _ => none) ∧ w.heap.size ≤ s ∧ w.heap.size ≤ m ∧ Below w.heap.size w w' := by
  have HP := Lib.hid hP; clear hP
  have hmm := @run_makeMap Try.prog
  go_enter Try.func10, Try.ntmps10
  go_wp2
  all_goals go_ret
  all_goals (have hP := HP.out; refine ⟨_, rfl, _, isSp_made w P (by omega) (by omega) _ (by omega), by omega, Nat.le_refl _, ((Below.refl _ _).alloc (Nat.le_refl _) _).alloc (by simp) _⟩)
end Go.Proofs.Ytacognejefeboaa
