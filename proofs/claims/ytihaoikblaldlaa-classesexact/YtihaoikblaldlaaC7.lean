/-
  What each function of package classes comes to.
-/
import Derived.Test.YtihaoikblaldlaaC1
import Derived.Test.YtihaoikblaldlaaM7
namespace Go.Proofs.Ytihaoikblaldlaa
open Go.ChangeShapes Go.WideShapes Go.ChangeAt Go.RowKit
set_option linter.unusedVariables false

theorem ret3 {k : IntKind} {a b : Int} {p q r s : Bool} (h : a = b) (g : p = q) (f : r = s) : Ending.returned (.tuple #[.int k a, .bool p, .bool r]) = .returned (.tuple #[.int k b, .bool q, .bool s]) := by rw [h, g, f]
theorem cpages_any (c : Int) (w : World) :
    Calls Try.prog 10 #[.int .i64 c] w fun e w' => e = .returned (.int .i64 (M.pg c)) ∧ w = w' := by
  by_cases h1 : c < 0
  · go_enter Try.func10, Try.ntmps10
    go_wp2
    go_ret
    exact ⟨ret1 (M.pg_out c (.inl h1)).symm, rfl⟩
  · by_cases h2 : 7 ≤ c
    · go_enter Try.func10, Try.ntmps10
      go_wp2
      go_ret
      exact ⟨ret1 (M.pg_out c (.inr h2)).symm, rfl⟩
    · rcases (by omega : c = 0 ∨ c = 1 ∨ c = 2 ∨ c = 3 ∨ c = 4 ∨ c = 5 ∨ c = 6) with rfl | rfl | rfl | rfl | rfl | rfl | rfl
      all_goals clear h1 h2
      all_goals go_enter Try.func10, Try.ntmps10
      all_goals go_wp2
      all_goals go_ret
      all_goals exact ⟨ret1 (by decide), rfl⟩
theorem cpages_at {i : Int} (c g : Int) (ei : i = c) (eg : M.pg c = g) (w : World) :
    Calls Try.prog 10 #[.int .i64 i] w fun e w' => e = .returned (.int .i64 g) ∧ w = w' := by
  subst ei eg; exact cpages_any _ w
theorem class_any (p : Int) (w : World) :
    Calls Try.prog 12 #[.int .i64 p] w fun e w' => e = .returned (.int .i64 (M.cls p)) ∧ w = w' := by
  by_cases h1 : p < 1
  · go_enter Try.func12, Try.ntmps12
    go_wp2
    go_ret
    exact ⟨ret1 (M.cls_low p h1).symm, rfl⟩
  · go_enter Try.func12, Try.ntmps12
    go_wp2_with fail
    go_loop [3, 6] (fun _ i => ∃ k : Nat, k ≤ 7 ∧ (k = 0 ∨ M.pg ((k : Int) - 1) < p) ∧ i = .int .i64 k) (fun _ i => 7 - (intOf i).toNat)
    case atStart => exact ⟨0, by omega, .inl rfl, rfl⟩
    case round =>
      obtain ⟨k, hk, hb, rfl⟩ := hrel
      have HB := Lib.hid hb; clear hb
      by_cases hlt : k < 7
      · have G : Hid (M.pg (k : Int) = M.pg (k : Int)) := Lib.hid rfl
        revert G
        generalize hg : M.pg (k : Int) = g
        intro G
        have HG := Lib.hid hg; clear hg G
        by_cases hz : p ≤ g
        · go_wp2_with fail
          refine (cpages_at (k : Int) g rfl HG.out _).mono ?_
          rintro e w' ⟨rfl, rfl⟩
          go_wp2
          go_ret
          exact ⟨ret1 (M.cls_eq p k hlt (by omega) (by rw [HG.out]; exact hz) HB.out).symm, rfl⟩
        · go_wp2_with fail
          refine (cpages_at (k : Int) g rfl HG.out _).mono ?_
          rintro e w' ⟨rfl, rfl⟩
          go_wp2
          go_round
          case rel => exact ⟨k + 1, by omega, .inr (by rw [show (((k + 1 : Nat) : Int) - 1) = k by omega, HG.out]; omega), by go_num⟩
          case measure => simp [intOf]; omega
      · have e : k = 7 := by omega
        subst e
        go_wp2
        go_ret
        have := HB.out
        simp [M.pg] at this
        exact ⟨ret1 (M.cls_none p (by omega)).symm, rfl⟩
theorem class_at {i : Int} (p g : Int) (ei : i = p) (eg : M.cls p = g) (w : World) :
    Calls Try.prog 12 #[.int .i64 i] w fun e w' => e = .returned (.int .i64 g) ∧ w = w' := by
  subst ei eg; exact class_any _ w
theorem need_any (s a : Nat) (hs : s < 18446744073709551616) (ha : a < 18446744073709551616) (w : World) :
    Calls Try.prog 14 #[.int .u64 s, .int .u64 a] w fun e w' => e = .returned (.tuple #[.int .u64 (M.needV s a : Nat), .bool (M.needB s a)]) ∧ w = w' := by
  by_cases h0 : s = 0
  · subst h0
    go_enter Try.func14, Try.ntmps14
    go_wp2
    go_ret2
    have e : M.needB 0 a = false := by simp [M.needB]
    exact ⟨ret2 (by simp [M.needV, e]) e.symm, rfl⟩
  · by_cases h1 : 4096 < a
    · have h0' : 0 < s := by omega
      go_enter Try.func14, Try.ntmps14
      go_wp2
      go_ret2
      have e : M.needB s a = false := by unfold M.needB; rw [decide_eq_false (by omega)]; simp
      exact ⟨ret2 (by simp [M.needV, e]) e.symm, rfl⟩
    · have z0 : ((s : Int) == 0) = false := by simp; omega
      have z1 : decide ((4096 : Int) < (a : Int)) = false := decide_eq_false (by omega)
      cases hp : M.powB a with
      | false =>
        have e : M.needB s a = false := by unfold M.needB; rw [hp]; simp
        have E := Lib.hid e; clear e
        have u1 : M.upV 32 a = 0 := by simp [M.upV, hp]
        have u2 : M.upB 32 a = false := by simp [M.upB, hp]
        have U1 := Lib.hid u1; have U2 := Lib.hid u2; clear u1 u2 hp
        go_enter Try.func14, Try.ntmps14
        go_wp2_with fail
        refine (up_at 32 a 0 false rfl rfl (by decide) ha U1.out U2.out _).mono ?_
        rintro e w' ⟨rfl, rfl⟩
        go_wp2
        go_ret2
        exact ⟨ret2 (by simp [M.needV, E.out]) E.out.symm, rfl⟩
      | true =>
        obtain ⟨u2, f1, f2, f3⟩ := M.fst_up a hp (by omega)
        have u1 : M.upV 32 a = M.fst a := rfl
        have e : M.needB s a = M.addB (M.fst a) s := by rw [M.needB_of s a hp (by omega)]; simp; omega
        have v : M.needV s a = if M.addB (M.fst a) s = true then M.pgs (M.fst a + s) else 0 := by unfold M.needV; rw [e]
        generalize M.fst a = f at *
        rw [e, v]
        have U1 := Lib.hid u1; have U2 := Lib.hid u2; clear u1 u2 hp e v f1
        cases hb : M.addB f s with
        | false =>
          have b2 : M.addV f s = 0 := by unfold M.addB at hb; unfold M.addV; rw [if_neg (of_decide_eq_false hb)]
          have B1 := Lib.hid hb; have B2 := Lib.hid b2; clear hb b2
          go_enter Try.func14, Try.ntmps14
          go_wp2_with fail
          refine (up_at 32 a f true rfl rfl (by decide) ha U1.out U2.out _).mono ?_
          rintro e w' ⟨rfl, rfl⟩
          go_wp2_with fail
          refine (add_at f s 0 false rfl rfl (by omega) hs B2.out B1.out _).mono ?_
          rintro e w' ⟨rfl, rfl⟩
          go_wp2
          go_ret2
          exact ⟨ret2 (by simp) rfl, rfl⟩
        | true =>
          have b2 : M.addV f s = f + s := M.addV_eq f s hb
          have b3 := M.addB_lt f s hb
          generalize ht : f + s = t at *
          have B1 := Lib.hid hb; have B2 := Lib.hid b2; have T := Lib.hid ht; clear hb b2 ht
          go_enter Try.func14, Try.ntmps14
          go_wp2_with fail
          refine (up_at 32 a f true rfl rfl (by decide) ha U1.out U2.out _).mono ?_
          rintro e w' ⟨rfl, rfl⟩
          go_wp2_with fail
          refine (add_at f s t true rfl rfl (by omega) hs B2.out B1.out _).mono ?_
          rintro e w' ⟨rfl, rfl⟩
          go_wp2_with fail
          refine (pages_at t (M.pgs t) rfl b3 rfl _).mono ?_
          rintro e w' ⟨rfl, rfl⟩
          go_wp2
          go_ret2
          exact ⟨ret2 (by simp) rfl, rfl⟩
theorem need_at {i j : Int} (s a x : Nat) (p : Bool) (ei : i = s) (ej : j = a) (hs : s < 18446744073709551616) (ha : a < 18446744073709551616) (ex : M.needV s a = x) (ep : M.needB s a = p) (w : World) :
    Calls Try.prog 14 #[.int .u64 i, .int .u64 j] w fun e w' => e = .returned (.tuple #[.int .u64 x, .bool p]) ∧ w = w' := by
  subst ei ej ex ep; exact need_any s a hs ha w
theorem chunk_any (s a : Nat) (hs : s < 18446744073709551616) (ha : a < 18446744073709551616) (w : World) :
    Calls Try.prog 16 #[.int .u64 s, .int .u64 a] w fun e w' => e = .returned (.tuple #[.int .i64 (M.chunkV s a), .bool (M.chunkL s a), .bool (M.chunkB s a)]) ∧ w = w' := by
  have hn := M.needV_le s a
  have c0 := M.chunk_no s a
  have c1 := M.chunk_over s a
  have c2 := M.chunk_large s a
  have c3 := M.chunk_small s a
  have c4 := M.needV_pos s a
  generalize M.chunkV s a = x at *
  generalize M.chunkL s a = l at *
  generalize M.chunkB s a = o at *
  generalize hv : M.needV s a = n at *
  generalize hb : M.needB s a = b at *
  have HV := Lib.hid hv; have HB := Lib.hid hb; clear hv hb
  cases b with
  | false =>
    obtain ⟨rfl, rfl, rfl⟩ := c0 rfl
    clear c0 c1 c2 c3 c4
    go_enter Try.func16, Try.ntmps16
    go_wp2_with fail
    refine (need_at s a n false rfl rfl hs ha HV.out HB.out _).mono ?_
    rintro e w' ⟨rfl, rfl⟩
    go_wp2
    go_ret3
    exact ⟨rfl, rfl⟩
  | true =>
    have n1 := c4 rfl
    by_cases h1 : 1048576 < n
    · obtain ⟨rfl, rfl, rfl⟩ := c1 h1
      clear c0 c1 c2 c3 c4
      go_enter Try.func16, Try.ntmps16
      go_wp2_with fail
      refine (need_at s a n true rfl rfl hs ha HV.out HB.out _).mono ?_
      rintro e w' ⟨rfl, rfl⟩
      go_wp2
      go_ret3
      exact ⟨rfl, rfl⟩
    · by_cases h2 : 64 < n
      · obtain ⟨rfl, rfl, rfl⟩ := c2 rfl (by omega) h2
        have d1 : M.cls (n : Int) = -1 := M.cls_none n (by omega)
        have D1 := Lib.hid d1
        clear c0 c1 c2 c3 c4 d1
        go_enter Try.func16, Try.ntmps16
        go_wp2_with fail
        refine (need_at s a n true rfl rfl hs ha HV.out HB.out _).mono ?_
        rintro e w' ⟨rfl, rfl⟩
        go_wp2
        go_ret3
        exact ⟨rfl, rfl⟩
      · obtain ⟨ex, rfl, rfl⟩ := c3 rfl h2
        have d1 := M.cls_some (n : Int) (by omega) (by omega)
        have d2 : 0 ≤ M.cls n := d1.1
        clear c0 c1 c2 c3 c4 d1
        generalize hc : M.cls n = c at *
        have HC := Lib.hid hc; have EX := Lib.hid ex; clear hc ex
        go_enter Try.func16, Try.ntmps16
        go_wp2_with fail
        refine (need_at s a n true rfl rfl hs ha HV.out HB.out _).mono ?_
        rintro e w' ⟨rfl, rfl⟩
        go_wp2_with fail
        refine (class_at (n : Int) c (by first | rfl | go_num) HC.out _).mono ?_
        rintro e w' ⟨rfl, rfl⟩
        go_wp2_with fail
        refine (cpages_at c x rfl EX.out.symm _).mono ?_
        rintro e w' ⟨rfl, rfl⟩
        go_wp2
        go_ret3
        exact ⟨rfl, rfl⟩
theorem chunk_at {i j : Int} (s a : Nat) (x : Int) (p q : Bool) (ei : i = s) (ej : j = a) (hs : s < 18446744073709551616) (ha : a < 18446744073709551616) (ex : M.chunkV s a = x) (ep : M.chunkL s a = p) (eq : M.chunkB s a = q) (w : World) :
    Calls Try.prog 16 #[.int .u64 i, .int .u64 j] w fun e w' => e = .returned (.tuple #[.int .i64 x, .bool p, .bool q]) ∧ w = w' := by
  subst ei ej ex ep eq; exact chunk_any s a hs ha w
end Go.Proofs.Ytihaoikblaldlaa
