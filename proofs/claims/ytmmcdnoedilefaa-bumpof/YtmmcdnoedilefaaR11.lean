/-
  The document's answers for layer 11.
-/
import Derived.Test.YtmmcdnoedilefaaF11
import Derived.Test.YtmmcdnoedilefaaR1
namespace Go.Proofs.Ytmmcdnoedilefaa
open Go.ChangeShapes Go.WideShapes Go.ChangeAt Go.RowKit
set_option linter.unusedVariables false
set_option maxRecDepth 20000

theorem rleft_any (t e : Nat) (ht : t < 18446744073709551616) (he : e < 18446744073709551616) (w : World) :
    Calls Try.prog 14 #[cur t e] w fun r w' => r = .returned (.int .u64 (M.left t e : Nat)) ∧ Below w.heap.size w w' := by
  by_cases h : e < t
  · go_enter Try.func14, Try.ntmps14
    go_wp2
    go_ret
    exact ⟨ret1 (by unfold M.left; omega), (Below.refl _ _).alloc (Nat.le_refl _) _⟩
  · have h' : t ≤ e := by omega
    go_enter Try.func14, Try.ntmps14
    go_wp2
    go_ret
    exact ⟨ret1 (by unfold M.left; omega), (Below.refl _ _).alloc (Nat.le_refl _) _⟩
theorem rof_any (p n : Int) (hp : -9223372036854775808 ≤ p) (hp' : p ≤ 9223372036854775807) (hn : -9223372036854775808 ≤ n) (hn' : n ≤ 9223372036854775807) (w : World) :
    Calls Try.prog 12 #[.int .i64 p, .int .i64 n] w fun r w' => r = .returned (cur (M.ofA p n) (M.ofE p n)) ∧ Below w.heap.size w w' := by
  have HB := Lib.hid (fun (o1 : Obj) => (Below.refl w.heap.size w).alloc (Nat.le_refl _) o1)
  cases hb : M.ofB p n with
  | false =>
    have e1 : M.ofA p n = 0 := if_neg (by simp [hb])
    have e2 : M.ofE p n = 0 := if_neg (by simp [hb])
    rw [e1, e2]; clear e1 e2
    have hi : p < 0 ∨ n < 1 ∨ 1048576 < p + n := by
      unfold M.ofB at hb
      simp only [Bool.and_eq_false_iff, decide_eq_false_iff_not] at hb
      omega
    clear hb
    by_cases h1 : p < 0
    · have z1 : decide (p < 0) = true := decide_eq_true h1
      clear hi h1
      go_enter Try.func12, Try.ntmps12
      go_wp2_with fail
      refine bodyPost_ret (v := cur 0 0) ?_ rfl ⟨rfl, HB.out _⟩
      simp [results, go_sem]
    · have z1 : decide (p < 0) = false := decide_eq_false h1
      by_cases h2 : n < 1
      · have z2 : decide (n < 1) = true := decide_eq_true h2
        clear hi h1 h2
        go_enter Try.func12, Try.ntmps12
        go_wp2_with fail
        refine bodyPost_ret (v := cur 0 0) ?_ rfl ⟨rfl, HB.out _⟩
        simp [results, go_sem]
      · have z2 : decide (n < 1) = false := decide_eq_false h2
        by_cases h3 : 1048576 < p
        · have z3 : decide (1048576 < p) = true := decide_eq_true h3
          clear hi h1 h2 h3
          go_enter Try.func12, Try.ntmps12
          go_wp2_with fail
          refine bodyPost_ret (v := cur 0 0) ?_ rfl ⟨rfl, HB.out _⟩
          simp [results, go_sem]
        · have z3 : decide (1048576 < p) = false := decide_eq_false h3
          have z4 : decide (1048576 - p < n) = true := decide_eq_true (by omega)
          have p0 : 0 ≤ p := by omega
          have p1 : p ≤ 1048576 := by omega
          clear hi h1 h2 h3
          go_enter Try.func12, Try.ntmps12
          go_wp2_with fail
          refine bodyPost_ret (v := cur 0 0) ?_ rfl ⟨rfl, HB.out _⟩
          simp [results, go_sem]
  | true =>
    have e1 : M.ofA p n = p * 4096 + 32 := if_pos hb
    have e2 : M.ofE p n = (p + n) * 4096 := if_pos hb
    rw [e1, e2]; clear e1 e2
    have hi := hb
    unfold M.ofB at hi
    simp only [Bool.and_eq_true, decide_eq_true_eq] at hi
    obtain ⟨⟨h1, h2⟩, h3⟩ := hi
    have z1 : decide (p < 0) = false := decide_eq_false (by omega)
    have z2 : decide (n < 1) = false := decide_eq_false (by omega)
    have z3 : decide (1048576 < p) = false := decide_eq_false (by omega)
    have z4 : decide (1048576 - p < n) = false := decide_eq_false (by omega)
    have p1 : p ≤ 1048576 := by omega
    have n1 : n ≤ 1048576 := by omega
    clear hb
    go_enter Try.func12, Try.ntmps12
    go_wp2_with fail
    refine bodyPost_ret (v := cur (p * 4096 + 32) (p * 4096 + n * 4096)) ?_ rfl ⟨retC rfl (by omega), HB.out _⟩
    simp [results, go_sem]
theorem rof_at {ip iq : Int} (p n A E : Int) (e0 : ip = p) (e1 : iq = n) (hp : -9223372036854775808 ≤ p) (hp' : p ≤ 9223372036854775807) (hn : -9223372036854775808 ≤ n) (hn' : n ≤ 9223372036854775807) (hA : M.ofA p n = A) (hE : M.ofE p n = E) (w : World) :
    Calls Try.prog 12 #[.int .i64 ip, .int .i64 iq] w fun r w' => r = .returned (cur A E) ∧ Below w.heap.size w w' := by
  subst e0 e1 hA hE; exact rof_any _ _ hp hp' hn hn' w
theorem rleft_at {ct ce : Int} (t e l : Nat) (e0 : ct = t) (e1 : ce = e) (ht : t < 18446744073709551616) (he : e < 18446744073709551616) (hl : M.left t e = l) (w : World) :
    Calls Try.prog 14 #[cur ct ce] w fun r w' => r = .returned (.int .u64 l) ∧ Below w.heap.size w w' := by
  subst e0 e1 hl; exact rleft_any t e ht he w
end Go.Proofs.Ytmmcdnoedilefaa
