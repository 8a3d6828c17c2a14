/-
  What bump.Fit comes to.
-/
import Derived.Test.YtmmcdnoedilefaaC11
import Derived.Deep.RegionHeld3
import Derived.Deep.DeepCutAuto
namespace Go.Proofs.Ytmmcdnoedilefaa
open Go.ChangeShapes Go.WideShapes Go.ChangeAt Go.RowKit
set_option linter.unusedVariables false
set_option maxRecDepth 20000

/-- What a Fit tells. -/
abbrev fitV (s a e p : Int) (b : Bool) : Value := .tuple #[.int .u64 s, cur a e, .int .u64 p, .bool b]
/-- Two cells of a variable of one's own. -/
structure Box2 (w : World) (g : Nat) (v0 v1 : Value) : Prop where
  c0 : w.cell? ⟨g, 0, none⟩ = some v0
  c1 : w.cell? ⟨g, 1, none⟩ = some v1
  fz : ∀ j, w.frozen? ⟨g, j, none⟩ = false
section
variable {w w' : World} {g : Nat} {v0 v1 : Value}
theorem Box2.new (w : World) (ty : TypeId) (v0 v1 : Value) : Box2 (w.alloc (.cells #[v0, v1] ty)) w.heap.size v0 v1 :=
  ⟨by rw [World.cell?_alloc_mark]; rfl, by rw [World.cell?_alloc_mark]; rfl, fun j => by rw [World.frozen?_alloc_mark]; simp⟩
theorem Box2.lt (h : Box2 w g v0 v1) : g < w.heap.size := lt_of_cell h.c0
theorem Box2.below (h : Box2 w g v0 v1) (hb : Below w.heap.size w w') : Box2 w' g v0 v1 :=
  ⟨(hb.cell (lt_of_cell h.c0)).trans h.c0, (hb.cell (lt_of_cell h.c1)).trans h.c1, fun j => (World.frozen?_of_block (hb.block g h.lt)).trans (h.fz j)⟩
theorem Box2.drew (h : Box2 w g v0 v1) : Box2 w.drew g v0 v1 := ⟨h.c0, h.c1, h.fz⟩
theorem Box2.drewN (h : Box2 w g v0 v1) (n : Nat) : Box2 (w.drewN n) g v0 v1 := ⟨h.c0, h.c1, h.fz⟩
theorem Box2.set (h : Box2 w g v0 v1) (u0 u1 : Value) : Box2 ((w.setCell ⟨g, 0, none⟩ u0).setCell ⟨g, 1, none⟩ u1) g u0 u1 := by
  refine ⟨?_, ?_, fun j => by rw [World.frozen?_setCell, World.frozen?_setCell]; exact h.fz j⟩
  · rw [World.cell?_setCell_other _ _ _ _ (by simp)]
    exact World.cell?_setCell_same _ _ _ h.c0
  · refine World.cell?_setCell_same _ _ _ (show World.cell? _ _ = some v1 from ?_)
    rw [World.cell?_setCell_other _ _ _ _ (by simp)]
    exact h.c1
theorem Box2.other (h : Box2 w g v0 v1) {g' : Nat} (hne : g ≠ g') (u0 u1 : Value) : Box2 ((w.setCell ⟨g', 0, none⟩ u0).setCell ⟨g', 1, none⟩ u1) g v0 v1 := by
  refine ⟨?_, ?_, fun j => by rw [World.frozen?_setCell, World.frozen?_setCell]; exact h.fz j⟩
  · rw [World.cell?_setCell_other _ _ _ _ (fun h => by first | exact hne (by injection h with h1; exact h1.symm) | (injection h; omega)), World.cell?_setCell_other _ _ _ _ (fun h => by first | exact hne (by injection h with h1; exact h1.symm) | (injection h; omega))]; exact h.c0
  · rw [World.cell?_setCell_other _ _ _ _ (fun h => by first | exact hne (by injection h with h1; exact h1.symm) | (injection h; omega)), World.cell?_setCell_other _ _ _ _ (fun h => by first | exact hne (by injection h with h1; exact h1.symm) | (injection h; omega))]; exact h.c1
theorem below_set2 {B : Nat} {a : World} (h : Below B a w) (hg : B ≤ g) (u0 u1 : Value) : Below B a ((w.setCell ⟨g, 0, none⟩ u0).setCell ⟨g, 1, none⟩ u1) :=
  (h.setCell (p := ⟨g, 0, none⟩) hg u0).setCell (p := ⟨g, 1, none⟩) hg u1
theorem below_new2 (w : World) (o : Obj) : Below w.heap.size w (w.alloc o) := (Below.refl _ _).alloc (Nat.le_refl _) o
end
/-- What stands in memory ahead of the first call. -/
theorem fit_made (w : World) (ty : TypeId) (v0 v1 u0 u1 : Value) : ∃ w2 g, w2 = (w.alloc (.cells #[v0, v1] ty)).alloc (.cells #[u0, u1] ty) ∧ g = w.heap.size ∧
    Box2 w2 g v0 v1 ∧ Box2 w2 (g + 1) u0 u1 ∧ Below w.heap.size w w2 := by
  have x2 := Box2.new (w.alloc (.cells #[v0, v1] ty)) ty u0 u1
  rw [show (w.alloc (.cells #[v0, v1] ty)).heap.size = w.heap.size + 1 by simp] at x2
  exact ⟨_, _, rfl, rfl, (Box2.new w ty v0 v1).below (below_new2 _ _), x2, below_call (below_new2 _ _) (below_new2 _ _)⟩

theorem fit_none (t e s a : Nat) (ht : t < 18446744073709551616) (he : e < 18446744073709551616) (hs : s < 18446744073709551616) (ha : a < 18446744073709551616) (hb : M.fitB t e s a = false) (w : World) :
    Calls Try.prog 9 #[cur t e, .int .u64 s, .int .u64 a] w fun r w' => r = .returned (fitV 0 0 0 0 false) ∧ Below w.heap.size w w' := by
  have lu := M.upV_lt t a ht
  obtain ⟨w2, g, ew, eg, X0, X1, B2⟩ := fit_made w 25 (.int .u64 (t : Int)) (.int .u64 (e : Int)) (.int .u64 0) (.int .u64 0)
  cases hu : M.upB t a with
  | false =>
    obtain ⟨x, hx⟩ : ∃ x, x = M.upV t a := ⟨_, rfl⟩
    obtain ⟨A, hA⟩ : ∃ A, M.bhA x s e = A := ⟨_, rfl⟩
    obtain ⟨E, hE⟩ : ∃ E, M.bhE x s e = E := ⟨_, rfl⟩
    rw [← hx] at lu
    have HX := Lib.hid hx.symm; have HU := Lib.hid hu; have HA := Lib.hid hA; have HE := Lib.hid hE
    clear hx hu hA hE hb
    have a0 := X0.c0
    have a1 := X0.c1
    go_enter Try.func9, Try.ntmps9
    go_upto_region 1 with fail
    rw [← ew, ← eg]
    clear ew
    have HG := Lib.hid eg; clear eg
    go_wp2_with fail
    refine (up_at t a x false (by first | rfl | go_num) (by first | rfl | go_num) ht ha HX.out HU.out _).mono ?_
    rintro r w' ⟨rfl, rfl⟩
    go_wp2_with fail
    refine (behind_at t e x s A E (by first | rfl | go_num) (by first | rfl | go_num) (by first | rfl | go_num) (by first | rfl | go_num) he lu hs HA.out HE.out _).mono ?_
    rintro r w1 ⟨rfl, hb1⟩
    have Y1 := X1.below hb1
    have BB := below_call B2 hb1
    have X3 := Y1.below (below_new2 w1 (.cells #[.int .u64 (A : Int), .int .u64 (E : Int)] 25))
    have B3 := below_call BB (below_new2 w1 (.cells #[.int .u64 (A : Int), .int .u64 (E : Int)] 25))
    go_upto_region 3 with fail
    generalize w1.alloc (.cells #[.int .u64 (A : Int), .int .u64 (E : Int)] 25) = w3 at *
    have b0 := X3.c0
    have b1 := X3.c1
    have bf := X3.fz
    have R := X3.set (.int .u64 0) (.int .u64 0)
    have r0 := R.c0
    have r1 := R.c1
    have BE := Lib.hid (below_set2 B3 (g := g + 1) (by have := HG.out; omega) (.int .u64 0) (.int .u64 0))
    clear hb1 BB B3 B2 Y1 X1 X0 X3 R
    go_wp2_with fail
    refine bodyPost_ret (v := fitV 0 0 0 0 false) ?_ rfl ?_
    · simp [results, go_sem, r0, r1]
    · exact ⟨rfl, BE.out⟩
  | true =>
    have hn : M.bhB (M.upV t a) s e = false := by unfold M.fitB at hb; rw [hu] at hb; simpa using hb
    obtain ⟨x, hx⟩ : ∃ x, x = M.upV t a := ⟨_, rfl⟩
    rw [← hx] at lu hn
    obtain ⟨hA, hE⟩ := M.bh_no x s e hn
    obtain ⟨A, eA⟩ : ∃ A, A = 0 := ⟨0, rfl⟩
    rw [← eA] at hA hE
    have HX := Lib.hid hx.symm; have HU := Lib.hid hu; have HA := Lib.hid hA; have HE := Lib.hid hE
    have z0 : ((A : Int) == 0) = true := by simp [eA]
    have HZ := Lib.hid eA
    clear hx hu hA hE hb hn eA
    have a0 := X0.c0
    have a1 := X0.c1
    go_enter Try.func9, Try.ntmps9
    go_upto_region 1 with fail
    rw [← ew, ← eg]
    clear ew
    have HG := Lib.hid eg; clear eg
    go_wp2_with fail
    refine (up_at t a x true (by first | rfl | go_num) (by first | rfl | go_num) ht ha HX.out HU.out _).mono ?_
    rintro r w' ⟨rfl, rfl⟩
    go_wp2_with fail
    refine (behind_at t e x s A A (by first | rfl | go_num) (by first | rfl | go_num) (by first | rfl | go_num) (by first | rfl | go_num) he lu hs HA.out HE.out _).mono ?_
    rintro r w1 ⟨rfl, hb1⟩
    have Y1 := X1.below hb1
    have BB := below_call B2 hb1
    have X3 := Y1.below (below_new2 w1 (.cells #[.int .u64 (A : Int), .int .u64 (A : Int)] 25))
    have B3 := below_call BB (below_new2 w1 (.cells #[.int .u64 (A : Int), .int .u64 (A : Int)] 25))
    have X4 := Box2.new w1 25 (.int .u64 (A : Int)) (.int .u64 (A : Int))
    go_upto_region 3 with fail
    generalize w1.alloc (.cells #[.int .u64 (A : Int), .int .u64 (A : Int)] 25) = w3 at *
    generalize w1.heap.size = g3 at *
    have d0 := X4.c0
    have d1 := X4.c1
    have b0 := X3.c0
    have b1 := X3.c1
    have bf := X3.fz
    have R := X3.set (.int .u64 0) (.int .u64 0)
    have r0 := R.c0
    have r1 := R.c1
    have BE := Lib.hid (below_set2 B3 (g := g + 1) (by have := HG.out; omega) (.int .u64 0) (.int .u64 0))
    clear hb1 BB B3 B2 Y1 X1 X0 X3 R X4
    go_wp2_with fail
    refine bodyPost_ret (v := fitV 0 0 0 0 false) ?_ rfl ?_
    · simp [results, go_sem, r0, r1]
    · exact ⟨rfl, BE.out⟩
theorem fit_some (t e s a : Nat) (ht : t < 18446744073709551616) (he : e < 18446744073709551616) (hs : s < 18446744073709551616) (ha : a < 18446744073709551616) (hb : M.fitB t e s a = true) (x y : Nat) (hx : M.upV t a = x) (hy : x + s = y) (w : World) :
    Calls Try.prog 9 #[cur t e, .int .u64 s, .int .u64 a] w fun r w' => r = .returned (fitV x y e ((x : Int) - t) true) ∧ Below w.heap.size w w' := by
  have lu := M.upV_lt t a ht
  obtain ⟨h1, h2, h3⟩ := (M.fitB_iff t e s a he).1 hb
  have hn : M.bhB (M.upV t a) s e = true := (M.bhB_iff _ s e he).2 ⟨h2, h3⟩
  have hge := M.up_ge t a h1
  rw [hx] at lu hn h3 hge
  obtain ⟨hA, hE⟩ := M.bh_yes x s e hn
  rw [hy] at hA
  obtain ⟨w2, g, ew, eg, X0, X1, B2⟩ := fit_made w 25 (.int .u64 (t : Int)) (.int .u64 (e : Int)) (.int .u64 0) (.int .u64 0)
  have HX := Lib.hid hx; have HU := Lib.hid h1; have HA := Lib.hid hA; have HE := Lib.hid hE
  have ly : 1 ≤ y := by omega
  have ly' : y < 18446744073709551616 := by omega
  have z0 : ((y : Int) == 0) = false := by simp; omega
  clear hx h1 hA hE hb hn hy h2 h3
  have a0 := X0.c0
  have a1 := X0.c1
  go_enter Try.func9, Try.ntmps9
  go_upto_region 1 with fail
  rw [← ew, ← eg]
  clear ew
  have HG := Lib.hid eg; clear eg
  go_wp2_with fail
  refine (up_at t a x true (by first | rfl | go_num) (by first | rfl | go_num) ht ha HX.out HU.out _).mono ?_
  rintro r w' ⟨rfl, rfl⟩
  go_wp2_with fail
  refine (behind_at t e x s y e (by first | rfl | go_num) (by first | rfl | go_num) (by first | rfl | go_num) (by first | rfl | go_num) he lu hs HA.out HE.out _).mono ?_
  rintro r w1 ⟨rfl, hb1⟩
  have Y0 := X0.below hb1
  have Y1 := X1.below hb1
  have BB := below_call B2 hb1
  have X2 := Y0.below (below_new2 w1 (.cells #[.int .u64 (y : Int), .int .u64 (e : Int)] 25))
  have X3 := Y1.below (below_new2 w1 (.cells #[.int .u64 (y : Int), .int .u64 (e : Int)] 25))
  have X4 := Box2.new w1 25 (.int .u64 (y : Int)) (.int .u64 (e : Int))
  have B3 := below_call BB (below_new2 w1 (.cells #[.int .u64 (y : Int), .int .u64 (e : Int)] 25))
  have n3 := (X1.below hb1).lt
  go_upto_region 3 with fail
  generalize w1.alloc (.cells #[.int .u64 (y : Int), .int .u64 (e : Int)] 25) = w3 at *
  generalize w1.heap.size = g3 at *
  have d0 := X4.c0
  have d1 := X4.c1
  have e0 := X2.c0
  have f0 := X3.c0
  have f1 := X3.c1
  have ff := X3.fz
  have zp : decide ((x : Int) < (t : Int)) = false := decide_eq_false (by omega)
  go_upto_region 5 with fail
  have HR := Lib.hid (show IntKind.u64.wrap ((x : Int) - t) = (x : Int) - t by rw [wrapU]; omega)
  have k0 := (X2.other (show g ≠ g + 1 by omega) (.int .u64 (y : Int)) (.int .u64 (e : Int))).c0
  have K4 := X4.other (show g3 ≠ g + 1 by omega) (.int .u64 (y : Int)) (.int .u64 (e : Int))
  have k1 := K4.c0
  have k2 := K4.c1
  have R := X3.set (.int .u64 (y : Int)) (.int .u64 (e : Int))
  have BE := Lib.hid (below_set2 B3 (g := g + 1) (by have := HG.out; omega) (.int .u64 (y : Int)) (.int .u64 (e : Int)))
  have RR := Lib.hid R
  clear X0 X1 X2 X3 X4 B2 B3 hb1 Y0 Y1 BB K4 R a0 a1
  go_region_held3 (fun W => W.cell? ⟨g, 0, none⟩ = some (.int .u64 (t : Int)) ∧ W.cell? ⟨g3, 0, none⟩ = some (.int .u64 (y : Int)) ∧ W.cell? ⟨g3, 1, none⟩ = some (.int .u64 (e : Int))) (first | exact ⟨e0, d0, d1⟩ | exact ⟨k0, k1, k2⟩) (fail)
  all_goals
    generalize (w3.setCell ⟨g + 1, 0, none⟩ (.int .u64 (y : Int))).setCell ⟨g + 1, 1, none⟩ (.int .u64 (e : Int)) = w5 at *
    clear k0 k1 k2
    have r0 := RR.out.c0
    have r1 := RR.out.c1
    go_wp2_with fail
    rw [HR.out]
    refine bodyPost_ret (v := fitV x y e ((x : Int) - t) true) ?_ rfl ⟨rfl, below_drewN' BE.out 1⟩
    simp [results, go_sem, r0, r1]
theorem fit_any (t e s a : Nat) (ht : t < 18446744073709551616) (he : e < 18446744073709551616) (hs : s < 18446744073709551616) (ha : a < 18446744073709551616) (w : World) :
    Calls Try.prog 9 #[cur t e, .int .u64 s, .int .u64 a] w fun r w' => r = .returned (fitV (M.fitS t e s a : Nat) (M.fitA t e s a : Nat) (M.fitE t e s a : Nat) (M.fitP t e s a : Nat) (M.fitB t e s a)) ∧ Below w.heap.size w w' := by
  cases hb : M.fitB t e s a with
  | false =>
    obtain ⟨e1, e2, e3, e4⟩ := M.fit_no t e s a hb
    rw [e1, e2, e3, e4]
    exact fit_none t e s a ht he hs ha hb w
  | true =>
    obtain ⟨e1, e2, e3, e4⟩ := M.fit_yes t e s a hb
    have hge := M.up_ge t a ((M.fitB_iff t e s a he).1 hb).1
    rw [e1, e2, e3, e4, show ((M.upV t a - t : Nat) : Int) = (M.upV t a : Int) - t by omega]
    exact fit_some t e s a ht he hs ha hb _ _ rfl rfl w
theorem fit_at {ct ce is ia : Int} (t e s a S A E P : Nat) (b : Bool) (e0 : ct = t) (e1 : ce = e) (e2 : is = s) (e3 : ia = a) (ht : t < 18446744073709551616) (he : e < 18446744073709551616) (hs : s < 18446744073709551616) (ha : a < 18446744073709551616)
    (hS : M.fitS t e s a = S) (hA : M.fitA t e s a = A) (hE : M.fitE t e s a = E) (hP : M.fitP t e s a = P) (hB : M.fitB t e s a = b) (w : World) :
    Calls Try.prog 9 #[cur ct ce, .int .u64 is, .int .u64 ia] w fun r w' => r = .returned (fitV S A E P b) ∧ Below w.heap.size w w' := by
  subst e0 e1 e2 e3 hS hA hE hP hB; exact fit_any t e s a ht he hs ha w
theorem of_at {ip iq : Int} (p n A E : Int) (e0 : ip = p) (e1 : iq = n) (hp : -9223372036854775808 ≤ p) (hp' : p ≤ 9223372036854775807) (hn : -9223372036854775808 ≤ n) (hn' : n ≤ 9223372036854775807) (hA : M.ofA p n = A) (hE : M.ofE p n = E) (w : World) :
    Calls Try.prog 11 #[.int .i64 ip, .int .i64 iq] w fun r w' => r = .returned (cur A E) ∧ Below w.heap.size w w' := by
  subst e0 e1 hA hE; exact of_any _ _ hp hp' hn hn' w
end Go.Proofs.Ytmmcdnoedilefaa
