/-
  The document's answers for layer 4.
-/
import Derived.Test.YtpcahaihlcaabaaEx4
import Derived.Test.YtpcahaihlcaabaaR2
namespace Go.Proofs.Ytpcahaihlcaabaa
open Go.ChangeShapes Go.WideShapes Go.ChangeAt Go.RowKit
set_option linter.unusedVariables false
set_option maxRecDepth 20000

theorem rright_any (a : Nat) (y : Int) (ha : a < 18446744073709551616) (w : World) :
    Calls Try.prog 27 #[.int .u64 a, .int .i64 y] w fun e w' => e = .returned (.bool (plB a y)) ∧ w = w' := by
  by_cases hw : M.wide y = true
  · obtain ⟨k, rfl, hk⟩ := M.wide_cases hw
    rcases hk with rfl | rfl | rfl | rfl
    all_goals
      go_enter Try.func27, Try.ntmps27
      go_wp2_with (go_at_call 44; refine (rWide_any _ _).mono ?_; rintro e w' ⟨rfl, rfl⟩)
      go_ret
      refine ⟨retB ?_, rfl⟩
      rw [Bool.eq_iff_iff]
      simp [plB, M.wide]
      try omega
  · have hw' : M.wide y = false := by simpa using hw
    clear hw
    go_enter Try.func27, Try.ntmps27
    go_wp2_with (go_at_call 44; refine (rWide_any _ _).mono ?_; rintro e w' ⟨rfl, rfl⟩)
    go_ret
    exact ⟨retB (by simp [plB, hw']), rfl⟩

set_option maxHeartbeats 1000000 in
theorem rget_bad (w : World) (P : Nat) (A : Option Addr) (n c T : Nat) (a : Nat) (y : Int) (ha : a < 18446744073709551616) (hp : plB a y = false) :
    Calls Try.prog 13 #[refV P A n c T, .int .u64 a, .int .i64 y] w fun r w' => r = .returned (.tuple #[refV P A n c T, .int .u64 0, .int .i64 1]) ∧ Below w.heap.size w w' := by
  go_enter Try.func13, Try.ntmps13
  go_wp2_with fail
  refine (rright_any a y ha _).mono ?_
  rintro e w' ⟨rfl, rfl⟩
  have t1 := two_made w (.int .i64 (P : Int)) (.slice A n c) (.int .i64 (T : Int))
  generalize (w.alloc (.cells #[.int .i64 (P : Int), .slice A n c, .int .i64 (T : Int)] 29)).alloc (.cells #[.int .i64 0, .slice none 0 0, .int .i64 0] 29) = w1 at *
  generalize hb2 : w.heap.size + 1 = b2 at t1 ⊢
  obtain ⟨b0, hb0⟩ : ∃ b0, b0 = w.heap.size := ⟨_, rfl⟩
  rw [← hb0] at t1
  have T1 := Lib.hid (show Two w w1 b0 b2 (.int .i64 (P : Int)) (.slice A n c) (.int .i64 (T : Int)) (.int .i64 0) (.slice none 0 0) (.int .i64 0) ∧ b0 = w.heap.size from ⟨t1, hb0⟩)
  have hne : b0 < b2 := by omega
  rw [← hb0]
  have c0 := t1.c0
  have c1 := t1.c1
  have c2 := t1.c2
  have d0 := t1.d0
  have d1 := t1.d1
  have d2 := t1.d2
  have f1 := t1.f1
  have f2 := t1.f2
  clear t1 hb2 hb0
  go_wp2_with fail
  refine bodyPost_ret (v := .tuple #[.agg #[.int .i64 (P : Int), .slice A n c, .int .i64 (T : Int)], .int .u64 0, .int .i64 1]) ?_ rfl ?_
  · simp [results, go_sem, d0, d1, d2]
  · have hb := T1.out.1.low
    have hlt := T1.out.1.lt
    refine ⟨rfl, ((T1.out.1.bel.setCell (p := ⟨b2, 0, none⟩) (by show _ ≤ b2; omega) _).setCell (p := ⟨b2, 1, none⟩) (by show _ ≤ b2; omega) _).setCell (p := ⟨b2, 2, none⟩) (by show _ ≤ b2; omega) _⟩

set_option maxHeartbeats 1000000 in
theorem rget_go (w : World) (P : Nat) (A : Option Addr) (n c T : Nat) (a k : Nat) (hk : k = 1 ∨ k = 2 ∨ k = 4 ∨ k = 8) (hd : a % k = 0) (ha : a < 18446744073709551616) (T' : Nat) (bs : List UInt8) (err : Int) (hbs : bs.length ≤ 8)
    (hl : ∀ w1, Below w.heap.size w w1 → Calls Try.prog 28 #[refV P A n c T, .int .u64 a, .int .u64 k] w1 fun r w' => r = .returned (.tuple #[refV P A n c T', .string ⟨bs.toArray⟩, .int .i64 err]) ∧ Below w1.heap.size w1 w') :
    Calls Try.prog 13 #[refV P A n c T, .int .u64 a, .int .i64 k] w fun r w' => r = .returned (.tuple #[refV P A n c T', .int .u64 (M.num bs : Nat), .int .i64 err]) ∧ Below w.heap.size w w' := by
  have hp := plB_nat hk hd
  have hk8 : k ≤ 8 := by omega
  have HL := Lib.hid hl
  clear hl hk hd
  go_enter Try.func13, Try.ntmps13
  go_wp2_with fail
  refine (rright_any a k ha _).mono ?_
  rintro e w' ⟨rfl, rfl⟩
  have t1 := two_made w (.int .i64 (P : Int)) (.slice A n c) (.int .i64 (T : Int))
  generalize (w.alloc (.cells #[.int .i64 (P : Int), .slice A n c, .int .i64 (T : Int)] 29)).alloc (.cells #[.int .i64 0, .slice none 0 0, .int .i64 0] 29) = w1 at *
  generalize hb2 : w.heap.size + 1 = b2 at t1 ⊢
  obtain ⟨b0, hb0⟩ : ∃ b0, b0 = w.heap.size := ⟨_, rfl⟩
  rw [← hb0] at t1
  have T1 := Lib.hid (show Two w w1 b0 b2 (.int .i64 (P : Int)) (.slice A n c) (.int .i64 (T : Int)) (.int .i64 0) (.slice none 0 0) (.int .i64 0) ∧ b0 = w.heap.size from ⟨t1, hb0⟩)
  have hne : b0 < b2 := by omega
  rw [← hb0]
  have c0 := t1.c0
  have c1 := t1.c1
  have c2 := t1.c2
  clear t1 hb2 hb0
  go_wp2_with fail
  refine (HL.out w1 T1.out.1.bel).mono ?_
  rintro e w2 ⟨rfl, b2'⟩
  have t2 := T1.out.1.below b2'
  have T2 := Lib.hid (show Two w w2 b0 b2 (.int .i64 (P : Int)) (.slice A n c) (.int .i64 (T : Int)) (.int .i64 0) (.slice none 0 0) (.int .i64 0) ∧ b0 = w.heap.size ∧ b2 < w2.heap.size from ⟨t2, T1.out.2, lt_of_cell t2.d0⟩)
  clear c0 c1 c2 t2 b2' T1
  go_wp2_with fail
  have t3 := T2.out.1.below ((Below.refl w2.heap.size w2).alloc (Nat.le_refl _) (.cells #[.int .i64 (P : Int), .slice A n c, .int .i64 (T' : Int)] 29))
  have e0 := World.cell?_alloc_mark w2 #[.int .i64 (P : Int), .slice A n c, .int .i64 (T' : Int)] 29 (0, 0) 0
  have e1 := World.cell?_alloc_mark w2 #[.int .i64 (P : Int), .slice A n c, .int .i64 (T' : Int)] 29 (0, 0) 1
  have e2 := World.cell?_alloc_mark w2 #[.int .i64 (P : Int), .slice A n c, .int .i64 (T' : Int)] 29 (0, 0) 2
  simp only [List.getElem?_toArray, List.getElem?_cons_zero, List.getElem?_cons_succ] at e0 e1 e2
  generalize w2.alloc (.cells #[.int .i64 (P : Int), .slice A n c, .int .i64 (T' : Int)] 29) = w3 at *
  have hb3 : b2 < w2.heap.size := T2.out.2.2
  generalize w2.heap.size = b3 at *
  have d0 := t3.d0
  have d1 := t3.d1
  have d2 := t3.d2
  have f2 := t3.f2
  have T3 := Lib.hid t3
  clear t3 T2
  have hne2 : b2 ≠ b3 := by omega
  have hne3 : b3 ≠ b2 := by omega
  go_region_with (go_at_call 29; refine (rNumber_any bs hbs _).mono ?_; rintro e w' ⟨rfl, rfl⟩)
  all_goals (go_wp2_with fail)
  all_goals
    refine bodyPost_ret (v := .tuple #[.agg #[.int .i64 (P : Int), .slice A n c, .int .i64 (T' : Int)], .int .u64 (M.num bs : Nat), .int .i64 err]) ?_ rfl ?_
    · simp [results, go_sem, d0, d1, d2]
    · have hl := T3.out.low
      refine ⟨rfl, ?_⟩
      repeat (first | exact T3.out.bel | refine Below.drew ?_ | refine Below.setCell ?_ (by show _ ≤ b2; omega) _)
end Go.Proofs.Ytpcahaihlcaabaa
