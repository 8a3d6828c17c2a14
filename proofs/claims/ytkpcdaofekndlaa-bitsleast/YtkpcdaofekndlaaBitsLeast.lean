/-
  Proved: for every uint64 n and uint8 k and j, the statement BitsLeast returns true, and its arguments read as before. No condition beyond those of the statement.
-/
import Derived.Test.YtkpcdaofekndlaaRows
import Derived.WalkKit
import Derived.ProofKit
import Derived.OpenShut
import Derived.Test.YtkpcdaofekndlaaAt
namespace Go.Proofs.Ytkpcdaofekndlaa.bitsLeast
open Go.ChangeShapes Go.WideShapes Go.ChangeAt Go.RowKit
set_option linter.unusedVariables false

theorem own : ownKnob Try.prog.godebug = none := by kernel_rfl

theorem core_no (n k j a b y : Nat) (q : Bool) (hn : n < 18446744073709551616) (hk : k < 256) (hj : j < 256)
    (ea : IntKind.u64.wrap (2 ^ (k % 64)) = a) (la : a < 18446744073709551616) (a0 : 0 < a)
    (eb : IntKind.u64.wrap (2 ^ (j % 64)) = b) (lb : b < 18446744073709551616)
    (X : Hid (M.upV n a = 0)) (P : Hid (M.upB n a = false)) (Y : Hid (M.upV n b = y)) (Q : Hid (M.upB n b = q))
    (hs : 18446744073709551616 < n + a) (w : World) :
    Calls Try.prog 6 #[.int .u64 n, .int .u8 k, .int .u8 j] w fun e w' => e = .returned (.bool true) ∧ Grown w w' := by
  go_enter Try.func6, Try.ntmps6
  go_wp2_with fail
  refine (awake_any _).mono ?_
  rintro e w1 ⟨rfl, g1⟩
  have G1 := Lib.hid g1; clear g1
  go_wp2_with fail
  refine (up_at n a 0 false rfl rfl hn la X.out P.out _).mono ?_
  rintro e w' ⟨rfl, rfl⟩
  go_wp2_with fail
  refine (up_at n b y q rfl rfl hn lb Y.out Q.out _).mono ?_
  rintro e w' ⟨rfl, rfl⟩
  go_wp2
  go_ret
  exact ⟨retB (by simp <;> omega), G1.out⟩

theorem core_yes (n k j a b x y : Nat) (q : Bool) (hn : n < 18446744073709551616) (hk : k < 256) (hj : j < 256)
    (ea : IntKind.u64.wrap (2 ^ (k % 64)) = a) (la : a < 18446744073709551616) (a0 : 0 < a)
    (eb : IntKind.u64.wrap (2 ^ (j % 64)) = b) (lb : b < 18446744073709551616)
    (X : Hid (M.upV n a = x)) (P : Hid (M.upB n a = true)) (Y : Hid (M.upV n b = y)) (Q : Hid (M.upB n b = q))
    (Z : Hid (M.upV x a = x)) (R : Hid (M.upB x a = true)) (hx : x < 18446744073709551616)
    (f1 : (x : Int) % (a : Int) = 0) (f2 : n ≤ x) (f3 : x < n + a) (hq : q = true → a ≤ b → x ≤ y) (w : World) :
    Calls Try.prog 6 #[.int .u64 n, .int .u8 k, .int .u8 j] w fun e w' => e = .returned (.bool true) ∧ Grown w w' := by
  have ha' : ((a : Int) == 0) = false := by simp; omega
  cases q with
  | false =>
    clear hq
    go_enter Try.func6, Try.ntmps6
    go_wp2_with fail
    refine (awake_any _).mono ?_
    rintro e w1 ⟨rfl, g1⟩
    have G1 := Lib.hid g1; clear g1
    go_wp2_with fail
    refine (up_at n a x true rfl rfl hn la X.out P.out _).mono ?_
    rintro e w' ⟨rfl, rfl⟩
    go_wp2_with fail
    refine (up_at n b y false rfl rfl hn lb Y.out Q.out _).mono ?_
    rintro e w' ⟨rfl, rfl⟩
    go_wp2_with fail
    refine (up_at x a x true rfl rfl hx la Z.out R.out _).mono ?_
    rintro e w' ⟨rfl, rfl⟩
    go_wp2
    go_ret
    exact ⟨rfl, G1.out⟩
  | true =>
    by_cases hab : b < a
    · clear hq
      go_enter Try.func6, Try.ntmps6
      go_wp2_with fail
      refine (awake_any _).mono ?_
      rintro e w1 ⟨rfl, g1⟩
      have G1 := Lib.hid g1; clear g1
      go_wp2_with fail
      refine (up_at n a x true rfl rfl hn la X.out P.out _).mono ?_
      rintro e w' ⟨rfl, rfl⟩
      go_wp2_with fail
      refine (up_at n b y true rfl rfl hn lb Y.out Q.out _).mono ?_
      rintro e w' ⟨rfl, rfl⟩
      go_wp2_with fail
      refine (up_at x a x true rfl rfl hx la Z.out R.out _).mono ?_
      rintro e w' ⟨rfl, rfl⟩
      go_wp2
      go_ret
      exact ⟨retB (by simp <;> omega), G1.out⟩
    · have hxy := hq rfl (by omega)
      clear hq
      go_enter Try.func6, Try.ntmps6
      go_wp2_with fail
      refine (awake_any _).mono ?_
      rintro e w1 ⟨rfl, g1⟩
      have G1 := Lib.hid g1; clear g1
      go_wp2_with fail
      refine (up_at n a x true rfl rfl hn la X.out P.out _).mono ?_
      rintro e w' ⟨rfl, rfl⟩
      go_wp2_with fail
      refine (up_at n b y true rfl rfl hn lb Y.out Q.out _).mono ?_
      rintro e w' ⟨rfl, rfl⟩
      go_wp2_with fail
      refine (up_at x a x true rfl rfl hx la Z.out R.out _).mono ?_
      rintro e w' ⟨rfl, rfl⟩
      go_wp2
      go_ret
      exact ⟨retB (by simp <;> omega), G1.out⟩

/-! The walk. -/
theorem walk (a0 : Int) (a1 : Int) (a2 : Int) (w0 : (Lit.int .u64 a0).wf = true) (w1 : (Lit.int .u8 a1).wf = true) (w2 : (Lit.int .u8 a2).wf = true) (w : World) :
    Calls Try.prog 6 #[.int .u64 a0, .int .u8 a1, .int .u8 a2] w fun e w' => e = .returned (.bool true) ∧ Grown w w' := by
  obtain ⟨n, hn, rfl⟩ := u64_nat w0
  obtain ⟨k, hk, rfl⟩ := u8_nat w1
  obtain ⟨j, hj, rfl⟩ := u8_nat w2
  obtain ⟨a, ea, pa, la⟩ := shifted64 k
  obtain ⟨b, eb, pb, lb⟩ := shifted64 j
  have a0 := M.powB_pos a pa
  by_cases hu : M.upB n a = true
  · obtain ⟨f1, f2, f3⟩ := M.up_true n a pa hu
    obtain ⟨g1, g2⟩ := M.up_mult (M.upV n a) a pa f1
    exact core_yes n k j a b (M.upV n a) (M.upV n b) (M.upB n b) hn hk hj ea la a0 eb lb (Lib.hid rfl) (Lib.hid hu) (Lib.hid rfl) (Lib.hid rfl) (Lib.hid g1) (Lib.hid g2) (M.upV_lt n a hn)
      (by rw [← Int.natCast_emod, f1]; rfl) f2 f3 (fun h h' => M.up_mono n a b pa pb h' hu h) w
  · have hu' : M.upB n a = false := by simpa using hu
    obtain ⟨f1, f2⟩ := M.up_false n a pa hu'
    exact core_no n k j a b (M.upV n b) (M.upB n b) hn hk hj ea la a0 eb lb (Lib.hid f1) (Lib.hid hu') (Lib.hid rfl) (Lib.hid rfl) f2 w

/-! The row's step. -/
set_option maxRecDepth 100000 in
theorem lifted (os : Os) (started : os.Started) (H : Type) (enc : TypeId × Value → H) :
    ReturnsInHanded {} Try.checked os 6 .any (Rows.bitsLeastSpec.pre6 enc Try.prog Try.f6 Rows.bitsLeastRow.domain false) (Rows.bitsLeastSpec.post enc Try.prog Try.f6 false true false false) := by
  refine returnsInHanded_of_change (C := Try.checked) own started (by kernel_rfl) Try.func6
    (ChangeSpec.witness6 (enc := enc) (C := Try.checked) false ⟨#[], #[.int .u64 0, .int .u8 0, .int .u8 0], []⟩ 8 (by kernel_rfl) (by kernel_rfl) (by kernel_rfl) (by kernel_rfl)) ?_
  intro W base args ds gs before hval0 hW hcnd _
  have hval : ∀ (j : Nat) t v, Try.f6.params[j]? = some t → args[j]? = some v → Value.okWide Try.prog W .any base t v := hval0
  have hW' := hW
  obtain ⟨p, q, hA0, hV, rfl, hfz, hnd⟩ := hW
  have hA : DataW.TrodAll enc Try.prog W 0 (fun _ => true) true Try.f6.params.toList args.toList ds p := hA0
  rw [Try.params6] at hA hval
  obtain ⟨v0, vs0, d0, ds0, p0, q0, hargs, rfl, rfl, h0, r0⟩ := trodAll_cons hA
  obtain ⟨v1, vs1, d1, ds1, p1, q1, rfl, rfl, rfl, h1, r1⟩ := trodAll_cons r0
  obtain ⟨v2, vs2, d2, ds2, p2, q2, rfl, rfl, rfl, h2, r2⟩ := trodAll_cons r1
  obtain ⟨rfl, rfl, rfl⟩ := trodAll_nil r2
  obtain rfl : args = #[v0, v1, v2] := by cases args; simp_all
  obtain ⟨rfl, rfl⟩ := trodVars_none hV
  obtain ⟨a0, rfl, rfl, rfl, w0⟩ := open_int Try.underlying22 (hval 0 22 v0 rfl rfl) h0
  obtain ⟨a1, rfl, rfl, rfl, w1⟩ := open_int Try.underlying5 (hval 1 5 v1 rfl rfl) h1
  obtain ⟨a2, rfl, rfl, rfl, w2⟩ := open_int Try.underlying5 (hval 2 5 v2 rfl rfl) h2
  clear hA0 hval0
  simp only [List.append_nil] at hW'
  refine (walk a0 a1 a2 w0 w1 w2 W).mono fun e W' ⟨he, hg⟩ => ?_
  subst he
  exact ⟨_, rfl, post_of_same (pa := []) (pv := []) hW' (fun _ _ _ => (trodAll_cons_mk (shut_bool Try.underlying4 _) trodAll_mk0)) (fun sp _ => (trodAll_cons_mk (shut_int Try.underlying22 w0) (trodAll_cons_mk (shut_int Try.underlying5 w1) (trodAll_cons_mk (shut_int Try.underlying5 w2) trodAll_mk0)))) (fun _ _ => rfl) rfl
    (hg.frame _) hg.2.1 (ok_one (by kernel_rfl) rfl (okWide_bool_mk Try.underlying4 _))⟩

theorem over : Rows.bitsLeastRow.holds Try.pinned (OpenSpec.ofChange Rows.bitsLeastSpec) :=
  OpenClaim.holds_of_wide 6 Try.f6 rfl rfl rfl rfl rfl rfl rfl ⟨rfl, rfl, rfl, rfl, rfl⟩ rfl rfl rfl rfl rfl (by kernel_rfl) Try.func6 (by kernel_rfl)
    (of_decide_eq_true (by kernel_rfl)) (by unfold Func.isWrapper; first | (rw [if_pos (by decide +kernel)]; kernel_rfl) | (rw [if_neg (by decide +kernel)]; exact ⟨rfl, rfl⟩))
    (fun os started H enc _ => lifted os started H enc)

/-- The statement. -/
theorem proved : Rows.BitsLeastSaid :=
  over
#print axioms proved
end Go.Proofs.Ytkpcdaofekndlaa.bitsLeast
