/-
  ClassesRise: more bytes, or a greater alignment, need no less pages; for every input the law returns true, and the arguments read behind the call as they read before. No condition.
-/
import Derived.Test.YtihaoikblaldlaaRows
import Derived.WalkKit
import Derived.ProofKit
import Derived.OpenShut
import Derived.ShutString
import Derived.ChangeOld
import Derived.Below
import Derived.Test.YtihaoikblaldlaaA7
import Derived.Test.YtihaoikblaldlaaL7
namespace Go.Proofs.Ytihaoikblaldlaa.classesRise
open Go.ChangeShapes Go.WideShapes Go.ChangeAt Go.RowKit
set_option linter.unusedVariables false

theorem own : ownKnob Try.prog.godebug = none := by kernel_rfl

theorem pow_wrap (x : Nat) (h : x ≤ 12) : IntKind.u64.wrap (2 ^ x) = ((2 ^ x : Nat) : Int) := by
  have hp : 2 ^ x ≤ 2 ^ 12 := Nat.pow_le_pow_right (by decide) h
  rw [wrapU, show ((2 : Int) ^ x) = ((2 ^ x : Nat) : Int) by simp]
  generalize 2 ^ x = p at hp
  omega
theorem pow_le_of {x y a b : Nat} (ea : IntKind.u64.wrap (2 ^ x) = a) (eb : IntKind.u64.wrap (2 ^ y) = b) (la : a ≤ 4096) (lb : b ≤ 4096) (h : x ≤ y) (hy : y ≤ 12) : a ≤ b := by
  rw [pow_wrap x (by omega)] at ea
  rw [pow_wrap y hy] at eb
  have hp : 2 ^ x ≤ 2 ^ y := Nat.pow_le_pow_right (by decide) h
  generalize 2 ^ x = p at *
  generalize 2 ^ y = q at *
  omega
theorem core_lt (s r k j x y a b n m t o : Nat) (is or ok yes : Bool) (hs : s < 18446744073709551616) (hr : r < 18446744073709551616) (hk : k < 256) (hj : j < 256)
    (ek : (k : Int) % 13 = (x : Int)) (ej : (j : Int) % 13 = (y : Int)) (hxy : x < y) (ea : IntKind.u64.wrap (2 ^ x) = a) (la : a ≤ 4096) (eb : IntKind.u64.wrap (2 ^ y) = b) (lb : b ≤ 4096)
    (N : Hid (M.needV s a = n)) (I : Hid (M.needB s a = is)) (V : Hid (M.needV s b = m)) (R : Hid (M.needB s b = or))
    (T : Hid (M.addV s r = t)) (O : Hid (M.addB s r = ok)) (ht : t < 18446744073709551616) (P : Hid (M.needV t a = o)) (Y : Hid (M.needB t a = yes))
    (H : Hid (or = true → is = true ∧ n ≤ m)) (K : Hid (ok = true → is = true → yes = true → n ≤ o)) (w : World) :
    Calls Try.prog 6 #[.int .u64 s, .int .u64 r, .int .u8 k, .int .u8 j] w fun e w' => e = .returned (.bool true) ∧ Below w.heap.size w w' := by
  go_enter Try.func6, Try.ntmps6
  go_wp2_with fail
  refine (awake_any _).mono ?_
  rintro e w' ⟨rfl, rfl⟩
  go_wp2_with fail
  refine (need_at s a n is rfl rfl hs (by omega) N.out I.out _).mono ?_
  rintro e w' ⟨rfl, rfl⟩
  go_wp2_with fail
  refine (need_at s b m or rfl rfl hs (by omega) V.out R.out _).mono ?_
  rintro e w' ⟨rfl, rfl⟩
  go_wp2_with fail
  refine (add_at s r t ok rfl rfl hs hr T.out O.out _).mono ?_
  rintro e w' ⟨rfl, rfl⟩
  go_wp2_with fail
  refine (need_at t a o yes rfl rfl ht (by omega) P.out Y.out _).mono ?_
  rintro e w' ⟨rfl, rfl⟩
  cases is with
  | false =>
    cases or with
    | true => exact absurd (H.out rfl).1 (by decide)
    | false =>
      cases ok <;> cases yes <;> (go_wp2; go_ret; exact ⟨rfl, Below.refl _ _⟩)
  | true =>
    cases or with
    | true =>
      have z1 : n ≤ m := (H.out rfl).2
      cases ok with
      | false => cases yes <;> (go_wp2; go_ret; exact ⟨by first | rfl | simp, Below.refl _ _⟩)
      | true =>
        cases yes with
        | false => go_wp2; go_ret; exact ⟨by first | rfl | simp, Below.refl _ _⟩
        | true =>
          have z2 : n ≤ o := K.out rfl rfl rfl
          go_wp2; go_ret; exact ⟨retB (by simp <;> omega), Below.refl _ _⟩
    | false =>
      cases ok with
      | false => cases yes <;> (go_wp2; go_ret; exact ⟨by first | rfl | simp, Below.refl _ _⟩)
      | true =>
        cases yes with
        | false => go_wp2; go_ret; exact ⟨by first | rfl | simp, Below.refl _ _⟩
        | true =>
          have z2 : n ≤ o := K.out rfl rfl rfl
          go_wp2; go_ret; exact ⟨retB (by simp <;> omega), Below.refl _ _⟩
theorem core_gt (s r k j x y a b n m t o : Nat) (is or ok yes : Bool) (hs : s < 18446744073709551616) (hr : r < 18446744073709551616) (hk : k < 256) (hj : j < 256)
    (ek : (k : Int) % 13 = (y : Int)) (ej : (j : Int) % 13 = (x : Int)) (hxy : x < y) (ea : IntKind.u64.wrap (2 ^ x) = a) (la : a ≤ 4096) (eb : IntKind.u64.wrap (2 ^ y) = b) (lb : b ≤ 4096)
    (N : Hid (M.needV s a = n)) (I : Hid (M.needB s a = is)) (V : Hid (M.needV s b = m)) (R : Hid (M.needB s b = or))
    (T : Hid (M.addV s r = t)) (O : Hid (M.addB s r = ok)) (ht : t < 18446744073709551616) (P : Hid (M.needV t a = o)) (Y : Hid (M.needB t a = yes))
    (H : Hid (or = true → is = true ∧ n ≤ m)) (K : Hid (ok = true → is = true → yes = true → n ≤ o)) (w : World) :
    Calls Try.prog 6 #[.int .u64 s, .int .u64 r, .int .u8 k, .int .u8 j] w fun e w' => e = .returned (.bool true) ∧ Below w.heap.size w w' := by
  go_enter Try.func6, Try.ntmps6
  go_wp2_with fail
  refine (awake_any _).mono ?_
  rintro e w' ⟨rfl, rfl⟩
  go_wp2_with fail
  refine (need_at s a n is rfl rfl hs (by omega) N.out I.out _).mono ?_
  rintro e w' ⟨rfl, rfl⟩
  go_wp2_with fail
  refine (need_at s b m or rfl rfl hs (by omega) V.out R.out _).mono ?_
  rintro e w' ⟨rfl, rfl⟩
  go_wp2_with fail
  refine (add_at s r t ok rfl rfl hs hr T.out O.out _).mono ?_
  rintro e w' ⟨rfl, rfl⟩
  go_wp2_with fail
  refine (need_at t a o yes rfl rfl ht (by omega) P.out Y.out _).mono ?_
  rintro e w' ⟨rfl, rfl⟩
  cases is with
  | false =>
    cases or with
    | true => exact absurd (H.out rfl).1 (by decide)
    | false =>
      cases ok <;> cases yes <;> (go_wp2; go_ret; exact ⟨rfl, Below.refl _ _⟩)
  | true =>
    cases or with
    | true =>
      have z1 : n ≤ m := (H.out rfl).2
      cases ok with
      | false => cases yes <;> (go_wp2; go_ret; exact ⟨by first | rfl | simp, Below.refl _ _⟩)
      | true =>
        cases yes with
        | false => go_wp2; go_ret; exact ⟨by first | rfl | simp, Below.refl _ _⟩
        | true =>
          have z2 : n ≤ o := K.out rfl rfl rfl
          go_wp2; go_ret; exact ⟨retB (by simp <;> omega), Below.refl _ _⟩
    | false =>
      cases ok with
      | false => cases yes <;> (go_wp2; go_ret; exact ⟨by first | rfl | simp, Below.refl _ _⟩)
      | true =>
        cases yes with
        | false => go_wp2; go_ret; exact ⟨by first | rfl | simp, Below.refl _ _⟩
        | true =>
          have z2 : n ≤ o := K.out rfl rfl rfl
          go_wp2; go_ret; exact ⟨retB (by simp <;> omega), Below.refl _ _⟩
theorem core_eq (s r k j x a n t o : Nat) (is ok yes : Bool) (hs : s < 18446744073709551616) (hr : r < 18446744073709551616) (hk : k < 256) (hj : j < 256)
    (ek : (k : Int) % 13 = (x : Int)) (ej : (j : Int) % 13 = (x : Int)) (ea : IntKind.u64.wrap (2 ^ x) = a) (la : a ≤ 4096)
    (N : Hid (M.needV s a = n)) (I : Hid (M.needB s a = is))
    (T : Hid (M.addV s r = t)) (O : Hid (M.addB s r = ok)) (ht : t < 18446744073709551616) (P : Hid (M.needV t a = o)) (Y : Hid (M.needB t a = yes))
    (K : Hid (ok = true → is = true → yes = true → n ≤ o)) (w : World) :
    Calls Try.prog 6 #[.int .u64 s, .int .u64 r, .int .u8 k, .int .u8 j] w fun e w' => e = .returned (.bool true) ∧ Below w.heap.size w w' := by
  go_enter Try.func6, Try.ntmps6
  go_wp2_with fail
  refine (awake_any _).mono ?_
  rintro e w' ⟨rfl, rfl⟩
  go_wp2_with fail
  refine (need_at s a n is rfl rfl hs (by omega) N.out I.out _).mono ?_
  rintro e w' ⟨rfl, rfl⟩
  go_wp2_with fail
  refine (need_at s a n is rfl rfl hs (by omega) N.out I.out _).mono ?_
  rintro e w' ⟨rfl, rfl⟩
  go_wp2_with fail
  refine (add_at s r t ok rfl rfl hs hr T.out O.out _).mono ?_
  rintro e w' ⟨rfl, rfl⟩
  go_wp2_with fail
  refine (need_at t a o yes rfl rfl ht (by omega) P.out Y.out _).mono ?_
  rintro e w' ⟨rfl, rfl⟩
  cases is with
  | false => cases ok <;> cases yes <;> (go_wp2; go_ret; exact ⟨rfl, Below.refl _ _⟩)
  | true =>
    have z1 : n ≤ n := Nat.le_refl n
    cases ok with
    | false => cases yes <;> (go_wp2; go_ret; exact ⟨by first | rfl | simp, Below.refl _ _⟩)
    | true =>
      cases yes with
      | false => go_wp2; go_ret; exact ⟨by first | rfl | simp, Below.refl _ _⟩
      | true =>
        have z2 : n ≤ o := K.out rfl rfl rfl
        go_wp2; go_ret; exact ⟨retB (by simp <;> omega), Below.refl _ _⟩

/-! The walk. -/
theorem walk (a0 : Int) (a1 : Int) (a2 : Int) (a3 : Int) (w : World) (w0 : (Lit.int .u64 a0).wf = true) (w1 : (Lit.int .u64 a1).wf = true) (w2 : (Lit.int .u8 a2).wf = true) (w3 : (Lit.int .u8 a3).wf = true) :
    Calls Try.prog 6 #[.int .u64 a0, .int .u64 a1, .int .u8 a2, .int .u8 a3] w fun e w' => e = .returned (.bool true) ∧ Below w.heap.size w w' := by
  obtain ⟨s, hs, rfl⟩ := u64_nat w0
  obtain ⟨r, hr, rfl⟩ := u64_nat w1
  obtain ⟨k, hk, rfl⟩ := u8_nat w2
  obtain ⟨j, hj, rfl⟩ := u8_nat w3
  obtain ⟨a, ea, pa, la, a0⟩ := shifted13 (min (k % 13) (j % 13))
  obtain ⟨b, eb, pb, lb, b0⟩ := shifted13 (max (k % 13) (j % 13))
  rw [show min (k % 13) (j % 13) % 13 = min (k % 13) (j % 13) by omega] at ea
  rw [show max (k % 13) (j % 13) % 13 = max (k % 13) (j % 13) by omega] at eb
  have hab : a ≤ b := pow_le_of ea eb la lb (by omega) (by omega)
  have H := M.rise s a b pa pb lb hab
  have K := M.rise_more s r a pa la
  have ht := M.addV_lt s r
  rcases Nat.lt_trichotomy (k % 13) (j % 13) with h | h | h
  · rw [show min (k % 13) (j % 13) = k % 13 by omega] at ea
    rw [show max (k % 13) (j % 13) = j % 13 by omega] at eb
    exact core_lt s r k j (k % 13) (j % 13) a b _ _ _ _ _ _ _ _ hs hr hk hj (by omega) (by omega) h ea la eb lb (Lib.hid rfl) (Lib.hid rfl) (Lib.hid rfl) (Lib.hid rfl) (Lib.hid rfl) (Lib.hid rfl) ht (Lib.hid rfl) (Lib.hid rfl) (Lib.hid H) (Lib.hid K) w
  · rw [show min (k % 13) (j % 13) = k % 13 by omega] at ea
    rw [show max (k % 13) (j % 13) = k % 13 by omega] at eb
    exact core_eq s r k j (k % 13) a _ _ _ _ _ _ hs hr hk hj (by omega) (by omega) ea la (Lib.hid rfl) (Lib.hid rfl) (Lib.hid rfl) (Lib.hid rfl) ht (Lib.hid rfl) (Lib.hid rfl) (Lib.hid K) w
  · rw [show min (k % 13) (j % 13) = j % 13 by omega] at ea
    rw [show max (k % 13) (j % 13) = k % 13 by omega] at eb
    exact core_gt s r k j (j % 13) (k % 13) a b _ _ _ _ _ _ _ _ hs hr hk hj (by omega) (by omega) h ea la eb lb (Lib.hid rfl) (Lib.hid rfl) (Lib.hid rfl) (Lib.hid rfl) (Lib.hid rfl) (Lib.hid rfl) ht (Lib.hid rfl) (Lib.hid rfl) (Lib.hid H) (Lib.hid K) w

/-! The row's step. -/
set_option maxRecDepth 100000 in
theorem lifted (os : Os) (started : os.Started) (H : Type) (enc : TypeId × Value → H) :
    ReturnsInHanded {} Try.checked os 6 .any (Rows.classesRiseSpec.pre6 enc Try.prog Try.f6 Rows.classesRiseRow.domain false) (Rows.classesRiseSpec.post enc Try.prog Try.f6 false true false false) := by
  refine returnsInHanded_of_change (C := Try.checked) own started (by kernel_rfl) Try.func6
    (ChangeSpec.witness6 (enc := enc) (C := Try.checked) false ⟨#[], #[.int .u64 0, .int .u64 0, .int .u8 0, .int .u8 0], []⟩ 8 (by kernel_rfl) (by kernel_rfl) (by kernel_rfl) (by kernel_rfl)) ?_
  intro W base args ds gs before hval0 hW hcnd _
  have hval : ∀ (j : Nat) t v, Try.f6.params[j]? = some t → args[j]? = some v → Value.okWide Try.prog W .any base t v := hval0
  have hW' := hW
  obtain ⟨p, q, hA0, hV, rfl, hfz, hnd⟩ := hW
  have hA : DataW.TrodAll enc Try.prog W 0 (fun _ => true) true Try.f6.params.toList args.toList ds p := hA0
  rw [Try.params6] at hA hval
  obtain ⟨v0, vs0, d0, ds0, p0, q0, hargs, rfl, rfl, h0, r0⟩ := trodAll_cons hA
  obtain ⟨v1, vs1, d1, ds1, p1, q1, rfl, rfl, rfl, h1, r1⟩ := trodAll_cons r0
  obtain ⟨v2, vs2, d2, ds2, p2, q2, rfl, rfl, rfl, h2, r2⟩ := trodAll_cons r1
  obtain ⟨v3, vs3, d3, ds3, p3, q3, rfl, rfl, rfl, h3, r3⟩ := trodAll_cons r2
  obtain ⟨rfl, rfl, rfl⟩ := trodAll_nil r3
  obtain rfl : args = #[v0, v1, v2, v3] := by cases args; simp_all
  obtain ⟨rfl, rfl⟩ := trodVars_none hV
  obtain ⟨a0, rfl, rfl, rfl, w0⟩ := open_int Try.underlying25 (hval 0 25 v0 rfl rfl) h0
  obtain ⟨a1, rfl, rfl, rfl, w1⟩ := open_int Try.underlying25 (hval 1 25 v1 rfl rfl) h1
  obtain ⟨a2, rfl, rfl, rfl, w2⟩ := open_int Try.underlying5 (hval 2 5 v2 rfl rfl) h2
  obtain ⟨a3, rfl, rfl, rfl, w3⟩ := open_int Try.underlying5 (hval 3 5 v3 rfl rfl) h3
  clear hA0 hval0
  refine (walk a0 a1 a2 a3 W w0 w1 w2 w3).mono fun e W' ⟨he, bel⟩ => ?_
  subst he
  exact ⟨_, rfl, _, _, _, [], _, [], hW', trodAll_mk1 (shut_bool Try.underlying4 _), (trodAll_cons_mk (shut_int Try.underlying25 w0) (trodAll_cons_mk (shut_int Try.underlying25 w1) (trodAll_cons_mk (shut_int Try.underlying5 w2) (trodAll_cons_mk (shut_int Try.underlying5 w3) trodAll_mk0)))), rfl, bel.frame _, fun h => by cases h⟩

theorem over : Rows.classesRiseRow.holds Try.pinned (OpenSpec.ofChange Rows.classesRiseSpec) :=
  OpenClaim.holds_of_wide 6 Try.f6 rfl rfl rfl rfl rfl rfl rfl ⟨rfl, rfl, rfl, rfl, rfl⟩ rfl rfl rfl rfl rfl (by kernel_rfl) Try.func6 (by kernel_rfl)
    (of_decide_eq_true (by kernel_rfl)) (by unfold Func.isWrapper; first | (rw [if_pos (by decide +kernel)]; kernel_rfl) | (rw [if_neg (by decide +kernel)]; exact ⟨rfl, rfl⟩))
    (fun os started H enc _ => lifted os started H enc)

/-- The statement. -/
theorem proved : Rows.ClassesRiseSaid := over
#print axioms proved
end Go.Proofs.Ytihaoikblaldlaa.classesRise
