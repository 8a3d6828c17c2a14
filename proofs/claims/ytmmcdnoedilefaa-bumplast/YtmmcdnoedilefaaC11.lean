/-
  What each function of package bump comes to.
-/
import Derived.Test.YtmmcdnoedilefaaC1
import Derived.Test.YtmmcdnoedilefaaM11
namespace Go.Proofs.Ytmmcdnoedilefaa
open Go.ChangeShapes Go.WideShapes Go.ChangeAt Go.RowKit
set_option linter.unusedVariables false

/-- A cursor, as a value. -/
abbrev cur (a e : Int) : Value := .agg #[.int .u64 a, .int .u64 e]
theorem retC {a b c d : Int} (h : a = b) (g : c = d) : Ending.returned (cur a c) = .returned (cur b d) := by rw [h, g]

theorem left_any (t e : Nat) (ht : t < 18446744073709551616) (he : e < 18446744073709551616) (w : World) :
    Calls Try.prog 13 #[cur t e] w fun r w' => r = .returned (.int .u64 (M.left t e : Nat)) ∧ Below w.heap.size w w' := by
  by_cases h : e < t
  · go_enter Try.func13, Try.ntmps13
    go_wp2
    go_ret
    exact ⟨ret1 (by unfold M.left; omega), (Below.refl _ _).alloc (Nat.le_refl _) _⟩
  · have h' : t ≤ e := by omega
    go_enter Try.func13, Try.ntmps13
    go_wp2
    go_ret
    exact ⟨ret1 (by unfold M.left; omega), (Below.refl _ _).alloc (Nat.le_refl _) _⟩
theorem behind_any (t e x s : Nat) (he : e < 18446744073709551616) (hx : x < 18446744073709551616) (hs : s < 18446744073709551616) (w : World) :
    Calls Try.prog 16 #[cur t e, .int .u64 x, .int .u64 s] w fun r w' => r = .returned (cur (M.bhA x s e : Nat) (M.bhE x s e : Nat)) ∧ Below w.heap.size w w' := by
  have HB := Lib.hid (fun (o1 o2 : Obj) => ((Below.refl w.heap.size w).alloc (Nat.le_refl _) o1).alloc (by simp) o2)
  cases hb : M.bhB x s e with
  | false =>
    obtain ⟨e1, e2⟩ := M.bh_no x s e hb
    rw [e1, e2]
    by_cases h0 : s = 0
    · subst h0
      clear e1 e2 hb
      go_enter Try.func16, Try.ntmps16
      go_wp2_with fail
      refine bodyPost_ret (v := cur 0 0) ?_ rfl ?_
      · simp [results, go_sem]
      · exact ⟨rfl, HB.out _ _⟩
    · have hi : M.inB x s e = false := by unfold M.bhB at hb; simpa [h0] using hb
      have z0 : ((s : Int) == 0) = false := by simp; omega
      clear e1 e2 hb
      have HI := Lib.hid hi; clear hi
      go_enter Try.func16, Try.ntmps16
      go_wp2_with (go_at_call 21; refine (in_at x s e false (by first | rfl | go_num) (by first | rfl | go_num) (by first | rfl | go_num) hx hs HI.out _).mono ?_; rintro e w' ⟨rfl, rfl⟩)
      refine bodyPost_ret (v := cur 0 0) ?_ rfl ?_
      · simp [results, go_sem]
      · exact ⟨rfl, HB.out _ _⟩
  | true =>
    obtain ⟨e1, e2⟩ := M.bh_yes x s e hb
    rw [e1, e2]
    obtain ⟨h1, h2⟩ := (M.bhB_iff x s e he).1 hb
    have hi : M.inB x s e = true := by unfold M.bhB at hb; simp at hb; exact hb.2
    have z0 : ((s : Int) == 0) = false := by simp; omega
    clear e1 e2 hb
    have HI := Lib.hid hi; clear hi
    go_enter Try.func16, Try.ntmps16
    go_wp2_with (go_at_call 21; refine (in_at x s e true (by first | rfl | go_num) (by first | rfl | go_num) (by first | rfl | go_num) hx hs HI.out _).mono ?_; rintro e w' ⟨rfl, rfl⟩)
    refine bodyPost_ret (v := cur ((x : Int) + s) e) ?_ rfl ?_
    · simp [results, go_sem]
    · exact ⟨retC (by omega) rfl, HB.out _ _⟩
theorem behind_at {ct ce ix is : Int} (t e x s A E : Nat) (e0 : ct = t) (e1 : ce = e) (e2 : ix = x) (e3 : is = s) (he : e < 18446744073709551616) (hx : x < 18446744073709551616) (hs : s < 18446744073709551616)
    (hA : M.bhA x s e = A) (hE : M.bhE x s e = E) (w : World) :
    Calls Try.prog 16 #[cur ct ce, .int .u64 ix, .int .u64 is] w fun r w' => r = .returned (cur A E) ∧ Below w.heap.size w w' := by
  subst e0 e1 e2 e3 hA hE; exact behind_any t e x s he hx hs w
theorem left_at {ct ce : Int} (t e l : Nat) (e0 : ct = t) (e1 : ce = e) (ht : t < 18446744073709551616) (he : e < 18446744073709551616) (hl : M.left t e = l) (w : World) :
    Calls Try.prog 13 #[cur ct ce] w fun r w' => r = .returned (.int .u64 l) ∧ Below w.heap.size w w' := by
  subst e0 e1 hl; exact left_any t e ht he w
theorem may_any (p n : Int) (hp : -9223372036854775808 ≤ p) (hp' : p ≤ 9223372036854775807) (hn : -9223372036854775808 ≤ n) (hn' : n ≤ 9223372036854775807) (w : World) (b c : Nat) (hb : w.cell? ⟨b, 0, none⟩ = some (.int .i64 p)) (hc : w.cell? ⟨c, 0, none⟩ = some (.int .i64 n)) :
    Calls Try.prog 18 #[.pointer (some ⟨b, 0, none⟩), .pointer (some ⟨c, 0, none⟩)] w fun r w' => r = .returned (.bool (M.ofB p n)) ∧ w = w' := by
  by_cases h1 : 0 ≤ p
  · by_cases h2 : 1 ≤ n
    · have hr : M.ofB p n = decide (n ≤ 1048576 - p) := by
        unfold M.ofB; rw [decide_eq_true h1, decide_eq_true h2, Bool.eq_iff_iff]; simp; omega
      rw [hr]; clear hr
      have z1 : decide (0 ≤ p) = true := decide_eq_true h1
      have z2 : decide (1 ≤ n) = true := decide_eq_true h2
      go_enter Try.func18, Try.ntmps18
      go_wp2_with fail
      go_ret
      exact ⟨retB rfl, rfl⟩
    · have hr : M.ofB p n = false := by
        unfold M.ofB; rw [decide_eq_false h2]; simp
      rw [hr]; clear hr
      have z1 : decide (0 ≤ p) = true := decide_eq_true h1
      have z2 : decide (1 ≤ n) = false := decide_eq_false h2
      go_enter Try.func18, Try.ntmps18
      go_wp2_with fail
      go_ret
      exact ⟨retB rfl, rfl⟩
  · have hr : M.ofB p n = false := by
      unfold M.ofB; rw [decide_eq_false h1]; simp
    rw [hr]; clear hr
    have z1 : decide (0 ≤ p) = false := decide_eq_false h1
    go_enter Try.func18, Try.ntmps18
    go_wp2_with fail
    go_ret
    exact ⟨retB rfl, rfl⟩
theorem of_any (p n : Int) (hp : -9223372036854775808 ≤ p) (hp' : p ≤ 9223372036854775807) (hn : -9223372036854775808 ≤ n) (hn' : n ≤ 9223372036854775807) (w : World) :
    Calls Try.prog 11 #[.int .i64 p, .int .i64 n] w fun r w' => r = .returned (cur (M.ofA p n) (M.ofE p n)) ∧ Below w.heap.size w w' := by
  have HB := Lib.hid (fun (o1 o2 o3 : Obj) => (((Below.refl w.heap.size w).alloc (Nat.le_refl _) o1).alloc (by simp) o2).alloc (by simp; omega) o3)
  cases hb : M.ofB p n with
  | false =>
    have e1 : M.ofA p n = 0 := if_neg (by simp [hb])
    have e2 : M.ofE p n = 0 := if_neg (by simp [hb])
    rw [e1, e2]; clear e1 e2
    have HI := Lib.hid hb; clear hb
    go_enter Try.func11, Try.ntmps11
    go_wp2_with fail
    refine (may_any p n hp hp' hn hn' _ _ _ (by simp [go_sem]) (by simp [go_sem])).mono ?_
    rw [HI.out]
    rintro r w' ⟨rfl, rfl⟩
    go_wp2_with fail
    refine bodyPost_ret (v := cur 0 0) ?_ rfl ?_
    · simp [results, go_sem]
    · exact ⟨rfl, HB.out _ _ _⟩
  | true =>
    have e1 : M.ofA p n = p * 4096 + 32 := if_pos hb
    have e2 : M.ofE p n = (p + n) * 4096 := if_pos hb
    rw [e1, e2]; clear e1 e2
    have hi := hb
    unfold M.ofB at hi
    simp only [Bool.and_eq_true, decide_eq_true_eq] at hi
    obtain ⟨⟨h1, h2⟩, h3⟩ := hi
    have HI := Lib.hid hb; clear hb
    go_enter Try.func11, Try.ntmps11
    go_wp2_with fail
    refine (may_any p n hp hp' hn hn' _ _ _ (by simp [go_sem]) (by simp [go_sem])).mono ?_
    rw [HI.out]
    rintro r w' ⟨rfl, rfl⟩
    go_wp2_with fail
    refine bodyPost_ret (v := cur (p * 4096 + 32) (p * 4096 + n * 4096)) ?_ rfl ?_
    · simp [results, go_sem]
    · exact ⟨retC rfl (by omega), HB.out _ _ _⟩
end Go.Proofs.Ytmmcdnoedilefaa
