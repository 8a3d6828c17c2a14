/-
  What each of the document's answers for layer 7 comes to.
-/
import Derived.Test.YtihaoikblaldlaaR1
import Derived.Test.YtihaoikblaldlaaC7
namespace Go.Proofs.Ytihaoikblaldlaa
open Go.ChangeShapes Go.WideShapes Go.ChangeAt Go.RowKit
set_option linter.unusedVariables false

theorem rup_at {i j : Int} (n a x : Nat) (p : Bool) (ei : i = n) (ej : j = a) (hn : n < 18446744073709551616) (ha : a < 18446744073709551616) (ex : M.upV n a = x) (ep : M.upB n a = p) (w : World) :
    Calls Try.prog 22 #[.int .u64 i, .int .u64 j] w fun e w' => e = .returned (.tuple #[.int .u64 x, .bool p]) ∧ w = w' := by
  subst ei ej ex ep; exact rup_any n a hn ha w
theorem radd_at {i j : Int} (n a x : Nat) (p : Bool) (ei : i = n) (ej : j = a) (hn : n < 18446744073709551616) (ha : a < 18446744073709551616) (ex : M.addV n a = x) (ep : M.addB n a = p) (w : World) :
    Calls Try.prog 23 #[.int .u64 i, .int .u64 j] w fun e w' => e = .returned (.tuple #[.int .u64 x, .bool p]) ∧ w = w' := by
  subst ei ej ex ep; exact radd_any n a hn ha w
theorem rpages_at {i : Int} (n x : Nat) (ei : i = n) (hn : n < 18446744073709551616) (ex : M.pgs n = x) (w : World) :
    Calls Try.prog 24 #[.int .u64 i] w fun e w' => e = .returned (.int .u64 x) ∧ w = w' := by
  subst ei ex; exact rpages_any n hn w
theorem rcpages_any (c : Int) (w : World) :
    Calls Try.prog 11 #[.int .i64 c] w fun e w' => e = .returned (.int .i64 (M.pg c)) ∧ w = w' := by
  go_enter Try.func11, Try.ntmps11
  go_wp2
  go_loop [3, 4] (fun n i => ∃ k m : Nat, k ≤ 7 ∧ m ≤ 128 ∧ m = 2 ^ k ∧ (c < 0 ∨ (k : Int) ≤ c) ∧ n = .int .i64 m ∧ i = .int .i64 k) (fun _ i => 7 - (intOf i).toNat)
  case atStart => exact ⟨0, 1, by omega, by omega, rfl, by omega, rfl, rfl⟩
  case round =>
    obtain ⟨k, m, hk, hm, em, hc, rfl, rfl⟩ := hrel
    have EM := Lib.hid em; have HC := Lib.hid hc; clear em hc
    by_cases hlt : k < 7
    · by_cases hz : c = (k : Int)
      · subst hz
        go_wp2
        go_ret
        exact ⟨ret1 (by rw [M.pg_pow k hlt, EM.out]), rfl⟩
      · have hz' : ((k : Int) == c) = false := by simp; omega
        have HZ := Lib.hid hz; clear hz
        have m64 : m ≤ 64 := by
          rw [EM.out]
          exact Nat.pow_le_pow_right (by decide) (by omega : k ≤ 6)
        go_wp2
        go_round
        case rel => exact ⟨k + 1, m * 2, by omega, by omega, by rw [EM.out, Nat.pow_succ], by have := HZ.out; have := HC.out; omega, by go_num, by go_num⟩
        case measure => simp [intOf]; omega
    · go_wp2
      go_ret
      have := HC.out
      exact ⟨ret1 (M.pg_out c (by omega)).symm, rfl⟩
theorem rcpages_at {i : Int} (c g : Int) (ei : i = c) (eg : M.pg c = g) (w : World) :
    Calls Try.prog 11 #[.int .i64 i] w fun e w' => e = .returned (.int .i64 g) ∧ w = w' := by
  subst ei eg; exact rcpages_any _ w
theorem rclass_any (p : Int) (w : World) :
    Calls Try.prog 13 #[.int .i64 p] w fun e w' => e = .returned (.int .i64 (M.cls p)) ∧ w = w' := by
  by_cases h1 : p < 1
  · go_enter Try.func13, Try.ntmps13
    go_wp2
    go_ret
    exact ⟨ret1 (M.cls_low p h1).symm, rfl⟩
  · go_enter Try.func13, Try.ntmps13
    go_wp2_with fail
    go_loop [3] (fun i => ∃ k : Nat, k ≤ 7 ∧ (k = 0 ∨ M.pg ((k : Int) - 1) < p) ∧ i = .int .i64 k) (fun i => 7 - (intOf i).toNat)
    case atStart => exact ⟨0, by omega, .inl rfl, rfl⟩
    case round =>
      obtain ⟨k, hk, hb, rfl⟩ := hrel
      have HB := Lib.hid hb; clear hb
      by_cases hlt : k < 7
      · generalize hg : M.pg (k : Int) = g
        have HG := Lib.hid hg; clear hg
        by_cases hz : p ≤ g
        · go_wp2_with fail
          refine (rcpages_at (k : Int) g rfl HG.out _).mono ?_
          rintro e w' ⟨rfl, rfl⟩
          go_wp2
          go_ret
          exact ⟨ret1 (M.cls_eq p k hlt (by omega) (by rw [HG.out]; exact hz) HB.out).symm, rfl⟩
        · go_wp2_with fail
          refine (rcpages_at (k : Int) g rfl HG.out _).mono ?_
          rintro e w' ⟨rfl, rfl⟩
          go_wp2
          go_round
          case rel => exact ⟨k + 1, by omega, .inr (by rw [show (((k + 1 : Nat) : Int) - 1) = k by omega, HG.out]; omega), by go_num⟩
          case measure => simp [intOf]; omega
      · have e : k = 7 := by omega
        subst e
        go_wp2
        go_ret
        have := HB.out
        simp [M.pg] at this
        exact ⟨ret1 (M.cls_none p (by omega)).symm, rfl⟩
theorem rclass_at {i : Int} (p g : Int) (ei : i = p) (eg : M.cls p = g) (w : World) :
    Calls Try.prog 13 #[.int .i64 i] w fun e w' => e = .returned (.int .i64 g) ∧ w = w' := by
  subst ei eg; exact rclass_any _ w
theorem rneed_any (s a : Nat) (hs : s < 18446744073709551616) (ha : a < 18446744073709551616) (w : World) :
    Calls Try.prog 15 #[.int .u64 s, .int .u64 a] w fun e w' => e = .returned (.tuple #[.int .u64 (M.needV s a : Nat), .bool (M.needB s a)]) ∧ w = w' := by
  by_cases h0 : s = 0
  · subst h0
    go_enter Try.func15, Try.ntmps15
    go_wp2
    go_ret2
    have e : M.needB 0 a = false := by simp [M.needB]
    exact ⟨ret2 (by simp [M.needV, e]) e.symm, rfl⟩
  · by_cases h1 : 4096 < a
    · have h0' : 0 < s := by omega
      go_enter Try.func15, Try.ntmps15
      go_wp2
      go_ret2
      have e : M.needB s a = false := by unfold M.needB; rw [decide_eq_false (by omega)]; simp
      exact ⟨ret2 (by simp [M.needV, e]) e.symm, rfl⟩
    · have z0 : ((s : Int) == 0) = false := by simp; omega
      have z1 : decide ((4096 : Int) < (a : Int)) = false := decide_eq_false (by omega)
      cases hp : M.powB a with
      | false =>
        have e : M.needB s a = false := by unfold M.needB; rw [hp]; simp
        have E := Lib.hid e; clear e
        have u1 : M.upV 32 a = 0 := by simp [M.upV, hp]
        have u2 : M.upB 32 a = false := by simp [M.upB, hp]
        have U1 := Lib.hid u1; have U2 := Lib.hid u2; clear u1 u2 hp
        have b1 : M.addB 0 s = true := by unfold M.addB; exact decide_eq_true (by omega)
        have b2 : M.addV 0 s = s := by rw [M.addV_eq 0 s b1]; omega
        have B1 := Lib.hid b1; have B2 := Lib.hid b2; clear b1 b2
        go_enter Try.func15, Try.ntmps15
        go_wp2_with fail
        refine (rup_at 32 a 0 false rfl rfl (by decide) ha U1.out U2.out _).mono ?_
        rintro e w' ⟨rfl, rfl⟩
        go_wp2_with fail
        refine (radd_at 0 s s true rfl rfl (by decide) hs B2.out B1.out _).mono ?_
        rintro e w' ⟨rfl, rfl⟩
        go_wp2
        go_ret2
        exact ⟨ret2 (by simp [M.needV, E.out]) E.out.symm, rfl⟩
      | true =>
        obtain ⟨u2, f1, f2, f3⟩ := M.fst_up a hp (by omega)
        have u1 : M.upV 32 a = M.fst a := rfl
        have e : M.needB s a = M.addB (M.fst a) s := by rw [M.needB_of s a hp (by omega)]; simp; omega
        have v : M.needV s a = if M.addB (M.fst a) s = true then M.pgs (M.fst a + s) else 0 := by unfold M.needV; rw [e]
        generalize M.fst a = f at *
        rw [e, v]
        have U1 := Lib.hid u1; have U2 := Lib.hid u2; clear u1 u2 hp e v f1
        cases hb : M.addB f s with
        | false =>
          have b2 : M.addV f s = 0 := by unfold M.addB at hb; unfold M.addV; rw [if_neg (of_decide_eq_false hb)]
          have B1 := Lib.hid hb; have B2 := Lib.hid b2; clear hb b2
          go_enter Try.func15, Try.ntmps15
          go_wp2_with fail
          refine (rup_at 32 a f true rfl rfl (by decide) ha U1.out U2.out _).mono ?_
          rintro e w' ⟨rfl, rfl⟩
          go_wp2_with fail
          refine (radd_at f s 0 false rfl rfl (by omega) hs B2.out B1.out _).mono ?_
          rintro e w' ⟨rfl, rfl⟩
          go_wp2
          go_ret2
          exact ⟨ret2 (by simp) rfl, rfl⟩
        | true =>
          have b2 : M.addV f s = f + s := M.addV_eq f s hb
          have b3 := M.addB_lt f s hb
          generalize ht : f + s = t at *
          have B1 := Lib.hid hb; have B2 := Lib.hid b2; have T := Lib.hid ht; clear hb b2 ht
          go_enter Try.func15, Try.ntmps15
          go_wp2_with fail
          refine (rup_at 32 a f true rfl rfl (by decide) ha U1.out U2.out _).mono ?_
          rintro e w' ⟨rfl, rfl⟩
          go_wp2_with fail
          refine (radd_at f s t true rfl rfl (by omega) hs B2.out B1.out _).mono ?_
          rintro e w' ⟨rfl, rfl⟩
          go_wp2_with fail
          refine (rpages_at t (M.pgs t) rfl b3 rfl _).mono ?_
          rintro e w' ⟨rfl, rfl⟩
          go_wp2
          go_ret2
          exact ⟨ret2 (by simp) rfl, rfl⟩
theorem rneed_at {i j : Int} (s a x : Nat) (p : Bool) (ei : i = s) (ej : j = a) (hs : s < 18446744073709551616) (ha : a < 18446744073709551616) (ex : M.needV s a = x) (ep : M.needB s a = p) (w : World) :
    Calls Try.prog 15 #[.int .u64 i, .int .u64 j] w fun e w' => e = .returned (.tuple #[.int .u64 x, .bool p]) ∧ w = w' := by
  subst ei ej ex ep; exact rneed_any s a hs ha w
theorem rchunk_any (s a : Nat) (hs : s < 18446744073709551616) (ha : a < 18446744073709551616) (w : World) :
    Calls Try.prog 17 #[.int .u64 s, .int .u64 a] w fun e w' => e = .returned (.tuple #[.int .i64 (M.chunkV s a), .bool (M.chunkL s a), .bool (M.chunkB s a)]) ∧ w = w' := by
  have hn := M.needV_le s a
  have c0 := M.chunk_no s a
  have c1 := M.chunk_over s a
  have c2 := M.chunk_large s a
  have c3 := M.chunk_small s a
  have c4 := M.needV_pos s a
  generalize M.chunkV s a = x at *
  generalize M.chunkL s a = l at *
  generalize M.chunkB s a = o at *
  generalize hv : M.needV s a = n at *
  generalize hb : M.needB s a = b at *
  have HV := Lib.hid hv; have HB := Lib.hid hb; clear hv hb
  cases b with
  | false =>
    obtain ⟨rfl, rfl, rfl⟩ := c0 rfl
    clear c0 c1 c2 c3 c4
    go_enter Try.func17, Try.ntmps17
    go_wp2_with fail
    refine (rneed_at s a n false rfl rfl hs ha HV.out HB.out _).mono ?_
    rintro e w' ⟨rfl, rfl⟩
    go_wp2
    go_ret3
    exact ⟨rfl, rfl⟩
  | true =>
    have n1 := c4 rfl
    by_cases h1 : 1048576 < n
    · obtain ⟨rfl, rfl, rfl⟩ := c1 h1
      clear c0 c1 c2 c3 c4
      go_enter Try.func17, Try.ntmps17
      go_wp2_with fail
      refine (rneed_at s a n true rfl rfl hs ha HV.out HB.out _).mono ?_
      rintro e w' ⟨rfl, rfl⟩
      go_wp2
      go_ret3
      exact ⟨rfl, rfl⟩
    · by_cases h2 : 64 < n
      · obtain ⟨rfl, rfl, rfl⟩ := c2 rfl (by omega) h2
        have d1 : M.cls (n : Int) = -1 := M.cls_none n (by omega)
        have D1 := Lib.hid d1
        clear c0 c1 c2 c3 c4 d1
        go_enter Try.func17, Try.ntmps17
        go_wp2_with fail
        refine (rneed_at s a n true rfl rfl hs ha HV.out HB.out _).mono ?_
        rintro e w' ⟨rfl, rfl⟩
        go_wp2_with fail
        refine (rclass_at (n : Int) (-1) (by first | rfl | go_num) D1.out _).mono ?_
        rintro e w' ⟨rfl, rfl⟩
        go_wp2
        go_ret3
        exact ⟨rfl, rfl⟩
      · obtain ⟨ex, rfl, rfl⟩ := c3 rfl h2
        have d1 := M.cls_some (n : Int) (by omega) (by omega)
        have d2 : 0 ≤ M.cls n := d1.1
        clear c0 c1 c2 c3 c4 d1
        generalize hc : M.cls n = c at *
        have HC := Lib.hid hc; have EX := Lib.hid ex; clear hc ex
        go_enter Try.func17, Try.ntmps17
        go_wp2_with fail
        refine (rneed_at s a n true rfl rfl hs ha HV.out HB.out _).mono ?_
        rintro e w' ⟨rfl, rfl⟩
        go_wp2_with fail
        refine (rclass_at (n : Int) c (by first | rfl | go_num) HC.out _).mono ?_
        rintro e w' ⟨rfl, rfl⟩
        go_wp2_with fail
        refine (rcpages_at c x rfl EX.out.symm _).mono ?_
        rintro e w' ⟨rfl, rfl⟩
        go_wp2
        go_ret3
        exact ⟨rfl, rfl⟩
theorem rchunk_at {i j : Int} (s a : Nat) (x : Int) (p q : Bool) (ei : i = s) (ej : j = a) (hs : s < 18446744073709551616) (ha : a < 18446744073709551616) (ex : M.chunkV s a = x) (ep : M.chunkL s a = p) (eq : M.chunkB s a = q) (w : World) :
    Calls Try.prog 17 #[.int .u64 i, .int .u64 j] w fun e w' => e = .returned (.tuple #[.int .i64 x, .bool p, .bool q]) ∧ w = w' := by
  subst ei ej ex ep eq; exact rchunk_any s a hs ha w
end Go.Proofs.Ytihaoikblaldlaa
