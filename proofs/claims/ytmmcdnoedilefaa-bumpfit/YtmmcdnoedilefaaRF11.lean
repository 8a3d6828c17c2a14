/-
  What the document's Fit comes to.
-/
import Derived.Test.YtmmcdnoedilefaaR11
namespace Go.Proofs.Ytmmcdnoedilefaa
open Go.ChangeShapes Go.WideShapes Go.ChangeAt Go.RowKit
set_option linter.unusedVariables false
set_option maxRecDepth 20000

theorem rup_at {i j : Int} (n a x : Nat) (p : Bool) (ei : i = n) (ej : j = a) (hn : n < 18446744073709551616) (ha : a < 18446744073709551616) (ex : M.upV n a = x) (ep : M.upB n a = p) (w : World) :
    Calls Try.prog 17 #[.int .u64 i, .int .u64 j] w fun e w' => e = .returned (.tuple #[.int .u64 x, .bool p]) ∧ w = w' := by
  subst ei ej ex ep; exact rup_any n a hn ha w
theorem rfit_none (t e s a : Nat) (ht : t < 18446744073709551616) (he : e < 18446744073709551616) (hs : s < 18446744073709551616) (ha : a < 18446744073709551616) (hb : M.fitB t e s a = false) (w : World) :
    Calls Try.prog 10 #[cur t e, .int .u64 s, .int .u64 a] w fun r w' => r = .returned (fitV 0 0 0 0 false) ∧ Below w.heap.size w w' := by
  have lu := M.upV_lt t a ht
  obtain ⟨w2, g, ew, eg, X0, X1, B2⟩ := fit_made w 28 (.int .u64 (t : Int)) (.int .u64 (e : Int)) (.int .u64 0) (.int .u64 0)
  obtain ⟨x, hx⟩ : ∃ x, x = M.upV t a := ⟨_, rfl⟩
  rw [← hx] at lu
  obtain ⟨b, hu⟩ : ∃ b, b = M.upB t a := ⟨_, rfl⟩
  have hi : b = true → s < 1 ∨ e < x + s := by
    intro h
    rcases Nat.lt_or_ge s 1 with h1 | h1
    · exact .inl h1
    · rcases Nat.lt_or_ge e (x + s) with h2 | h2
      · exact .inr h2
      · rw [(M.fitB_iff t e s a he).2 ⟨by rw [← hu, h], h1, by rw [← hx]; exact h2⟩] at hb
        cases hb
  have HX := Lib.hid hx.symm; have HU := Lib.hid hu.symm
  have a0 := X0.c0
  have a1 := X0.c1
  have b0 := X1.c0
  have b1 := X1.c1
  have bf := X1.fz
  have R := X1.set (.int .u64 0) (.int .u64 0)
  have r0 := R.c0
  have r1 := R.c1
  have BE := Lib.hid (below_set2 B2 (g := g + 1) (by omega) (.int .u64 0) (.int .u64 0))
  have EG := Lib.hid eg
  have EW := Lib.hid ew
  clear hx hu hb X0 X1 B2 R eg ew
  cases b with
  | false =>
    clear hi
    go_enter Try.func10, Try.ntmps10
    go_upto_region 1 with fail
    rw [← EW.out, ← EG.out]
    go_wp2_with fail
    refine (rup_at t a x false (by first | rfl | go_num) (by first | rfl | go_num) ht ha HX.out HU.out _).mono ?_
    rintro r w' ⟨rfl, rfl⟩
    go_wp2_with fail
    refine bodyPost_ret (v := fitV 0 0 0 0 false) ?_ rfl ⟨rfl, BE.out⟩
    simp [results, go_sem, r0, r1]
  | true =>
    have hi := hi rfl
    by_cases h1 : s < 1
    · have z1 : decide (s < 1) = true := decide_eq_true h1
      have z1' : decide ((s : Int) < 1) = true := decide_eq_true (by omega)
      clear hi h1
      go_enter Try.func10, Try.ntmps10
      go_upto_region 1 with fail
      rw [← EW.out, ← EG.out]
      go_wp2_with fail
      refine (rup_at t a x true (by first | rfl | go_num) (by first | rfl | go_num) ht ha HX.out HU.out _).mono ?_
      rintro r w' ⟨rfl, rfl⟩
      go_wp2_with fail
      refine bodyPost_ret (v := fitV 0 0 0 0 false) ?_ rfl ⟨rfl, BE.out⟩
      simp [results, go_sem, r0, r1]
    · have z1 : decide (s < 1) = false := decide_eq_false h1
      have z1' : decide ((s : Int) < 1) = false := decide_eq_false (by omega)
      by_cases h2 : e < x
      · have z2 : decide (e < x) = true := decide_eq_true h2
        clear hi h1 h2
        go_enter Try.func10, Try.ntmps10
        go_upto_region 1 with fail
        rw [← EW.out, ← EG.out]
        go_wp2_with fail
        refine (rup_at t a x true (by first | rfl | go_num) (by first | rfl | go_num) ht ha HX.out HU.out _).mono ?_
        rintro r w' ⟨rfl, rfl⟩
        go_wp2_with fail
        refine bodyPost_ret (v := fitV 0 0 0 0 false) ?_ rfl ⟨rfl, BE.out⟩
        simp [results, go_sem, r0, r1]
      · have z2 : decide (e < x) = false := decide_eq_false h2
        have z3 : decide ((e : Int) - x < s) = true := decide_eq_true (by omega)
        have z4 : x ≤ e := by omega
        clear hi h1 h2
        go_enter Try.func10, Try.ntmps10
        go_upto_region 1 with fail
        rw [← EW.out, ← EG.out]
        go_wp2_with fail
        refine (rup_at t a x true (by first | rfl | go_num) (by first | rfl | go_num) ht ha HX.out HU.out _).mono ?_
        rintro r w' ⟨rfl, rfl⟩
        go_wp2_with fail
        refine bodyPost_ret (v := fitV 0 0 0 0 false) ?_ rfl ⟨rfl, BE.out⟩
        simp [results, go_sem, r0, r1]
theorem rfit_some (t e s a : Nat) (ht : t < 18446744073709551616) (he : e < 18446744073709551616) (hs : s < 18446744073709551616) (ha : a < 18446744073709551616) (hb : M.fitB t e s a = true) (x y : Nat) (hx : M.upV t a = x) (hy : x + s = y) (w : World) :
    Calls Try.prog 10 #[cur t e, .int .u64 s, .int .u64 a] w fun r w' => r = .returned (fitV x y e ((x : Int) - t) true) ∧ Below w.heap.size w w' := by
  have lu := M.upV_lt t a ht
  obtain ⟨h1, h2, h3⟩ := (M.fitB_iff t e s a he).1 hb
  have hge := M.up_ge t a h1
  rw [hx] at lu h3 hge
  obtain ⟨w2, g, ew, eg, X0, X1, B2⟩ := fit_made w 28 (.int .u64 (t : Int)) (.int .u64 (e : Int)) (.int .u64 0) (.int .u64 0)
  have HX := Lib.hid hx; have HU := Lib.hid h1; have HY := Lib.hid hy
  have z1 : decide (s < 1) = false := decide_eq_false (by omega)
  have z1' : decide ((s : Int) < 1) = false := decide_eq_false (by omega)
  have z2 : decide (e < x) = false := decide_eq_false (by omega)
  have z3 : decide ((e : Int) - x < s) = false := decide_eq_false (by omega)
  have z4 : x ≤ e := by omega
  have HR := Lib.hid (show IntKind.u64.wrap ((x : Int) - t) = (x : Int) - t by rw [wrapU]; omega)
  have HS := Lib.hid (show IntKind.u64.wrap ((x : Int) + s) = (y : Int) by rw [wrapU]; omega)
  have n3 : g ≠ g + 1 := by omega
  have a0 := X0.c0
  have a1 := X0.c1
  have b0 := X1.c0
  have b1 := X1.c1
  have bf := X1.fz
  have K := X0.other n3 (.int .u64 (y : Int)) (.int .u64 (e : Int))
  have k0 := K.c0
  have k1 := K.c1
  have RR := Lib.hid (X1.set (.int .u64 (y : Int)) (.int .u64 (e : Int)))
  have BE := Lib.hid (below_set2 B2 (g := g + 1) (by omega) (.int .u64 (y : Int)) (.int .u64 (e : Int)))
  have EG := Lib.hid eg
  have EW := Lib.hid ew
  clear hx h1 h2 h3 hb X0 X1 B2 K eg ew hy
  go_enter Try.func10, Try.ntmps10
  go_upto_region 1 with fail
  rw [← EW.out, ← EG.out]
  go_wp2_with fail
  refine (rup_at t a x true (by first | rfl | go_num) (by first | rfl | go_num) ht ha HX.out HU.out _).mono ?_
  rintro r w' ⟨rfl, rfl⟩
  go_upto_region 4 with fail
  have hs1 : True → IntKind.u64.wrap ((x : Int) + s) = (y : Int) := fun _ => HS.out
  have hs2 : True → IntKind.u64.wrap ((x : Int) - t) = (x : Int) - t := fun _ => HR.out
  go_region_held3 (fun W => W.cell? ⟨g, 0, none⟩ = some (.int .u64 (t : Int)) ∧ W.cell? ⟨g, 1, none⟩ = some (.int .u64 (e : Int))) (first | exact ⟨a0, a1⟩ | exact ⟨k0, k1⟩) (fail)
  all_goals
    clear hs1 hs2
    generalize (w2.setCell ⟨g + 1, 0, none⟩ (.int .u64 (y : Int))).setCell ⟨g + 1, 1, none⟩ (.int .u64 (e : Int)) = w5 at *
    clear k0 k1
    have r0 := RR.out.c0
    have r1 := RR.out.c1
    go_wp2_with fail
    refine bodyPost_ret (v := fitV x y e ((x : Int) - t) true) ?_ rfl ⟨rfl, below_drewN' BE.out 1⟩
    simp [results, go_sem, r0, r1]
theorem rfit_any (t e s a : Nat) (ht : t < 18446744073709551616) (he : e < 18446744073709551616) (hs : s < 18446744073709551616) (ha : a < 18446744073709551616) (w : World) :
    Calls Try.prog 10 #[cur t e, .int .u64 s, .int .u64 a] w fun r w' => r = .returned (fitV (M.fitS t e s a : Nat) (M.fitA t e s a : Nat) (M.fitE t e s a : Nat) (M.fitP t e s a : Nat) (M.fitB t e s a)) ∧ Below w.heap.size w w' := by
  cases hb : M.fitB t e s a with
  | false =>
    obtain ⟨e1, e2, e3, e4⟩ := M.fit_no t e s a hb
    rw [e1, e2, e3, e4]
    exact rfit_none t e s a ht he hs ha hb w
  | true =>
    obtain ⟨e1, e2, e3, e4⟩ := M.fit_yes t e s a hb
    have hge := M.up_ge t a ((M.fitB_iff t e s a he).1 hb).1
    rw [e1, e2, e3, e4, show ((M.upV t a - t : Nat) : Int) = (M.upV t a : Int) - t by omega]
    exact rfit_some t e s a ht he hs ha hb _ _ rfl rfl w
theorem rfit_at {ct ce is ia : Int} (t e s a S A E P : Nat) (b : Bool) (e0 : ct = t) (e1 : ce = e) (e2 : is = s) (e3 : ia = a) (ht : t < 18446744073709551616) (he : e < 18446744073709551616) (hs : s < 18446744073709551616) (ha : a < 18446744073709551616)
    (hS : M.fitS t e s a = S) (hA : M.fitA t e s a = A) (hE : M.fitE t e s a = E) (hP : M.fitP t e s a = P) (hB : M.fitB t e s a = b) (w : World) :
    Calls Try.prog 10 #[cur ct ce, .int .u64 is, .int .u64 ia] w fun r w' => r = .returned (fitV S A E P b) ∧ Below w.heap.size w w' := by
  subst e0 e1 e2 e3 hS hA hE hP hB; exact rfit_any t e s a ht he hs ha w
end Go.Proofs.Ytmmcdnoedilefaa
