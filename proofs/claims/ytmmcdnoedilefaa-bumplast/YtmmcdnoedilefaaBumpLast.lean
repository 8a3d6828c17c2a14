/-
  BumpLast: just as many bytes fit as are left behind the padding, and one more doesn't; for every input the law returns true, and the arguments read behind the call as they read before. No condition.
-/
import Derived.Test.YtmmcdnoedilefaaRows
import Derived.WalkKit
import Derived.ProofKit
import Derived.OpenShut
import Derived.ShutString
import Derived.ChangeOld
import Derived.Below
import Derived.Test.YtmmcdnoedilefaaA11
import Derived.Test.YtmmcdnoedilefaaL11
namespace Go.Proofs.Ytmmcdnoedilefaa.bumpLast
open Go.ChangeShapes Go.WideShapes Go.ChangeAt Go.RowKit
set_option linter.unusedVariables false

theorem own : ownKnob Try.prog.godebug = none := by kernel_rfl

theorem u16_nat {a : Int} (h : (Lit.int .u16 a).wf = true) : ∃ n : Nat, n < 65536 ∧ a = n := by
  have := bounds_u16 h
  exact ⟨a.toNat, by omega, by omega⟩
theorem core_out (t l k a x : Nat) (ht : t < 4294967296) (hl : l < 65536) (hk : k < 256) (ea : IntKind.u64.wrap (2 ^ (k % 13)) = a) (la : a ≤ 4096) (a0 : 0 < a)
    (hx : ((t : Int) + a - 1) / a * a = x) (h1 : t ≤ x) (h2 : x < t + a) (h3 : t + l ≤ x) (F : Hid (M.fitB t (t + l) 1 a = false)) (w : World) :
    Calls Try.prog 6 #[.int .u32 t, .int .u16 l, .int .u8 k] w fun e w' => e = .returned (.bool true) ∧ Below w.heap.size w w' := by
  have z1 : decide ((t : Int) + l ≤ x) = true := decide_eq_true (by omega)
  go_enter Try.func6, Try.ntmps6
  go_wp2_with fail
  refine (awake_any _).mono ?_
  rintro _ w1 ⟨rfl, b1⟩
  have X := Box2.new w1 25 (.int .u64 t) (.int .u64 ((t : Int) + l))
  have B2 := below_call b1 (below_new2 w1 (.cells #[.int .u64 t, .int .u64 ((t : Int) + l)] 25))
  go_upto_region 7 with fail
  generalize w1.alloc (.cells #[.int .u64 t, .int .u64 ((t : Int) + l)] 25) = w2 at *
  generalize w1.heap.size = g at *
  have c0 := X.c0
  have c1 := X.c1
  clear hx X b1
  have EA := Lib.hid ea; clear ea
  go_wp2_with fail
  refine (fit_at t (t + l) 1 a _ _ _ _ false rfl (by omega) rfl EA.out (by omega) (by omega) (by omega) (by omega) rfl rfl rfl rfl F.out _).mono ?_
  rintro _ w3 ⟨rfl, b3⟩
  have HB := Lib.hid (fun o => below_call (below_call B2 b3) (below_new2 w3 o))
  clear B2 b3 c0 c1
  go_wp2
  go_ret
  exact ⟨rfl, HB.out _⟩
theorem core_in (t l k a x n z : Nat) (ht : t < 4294967296) (hl : l < 65536) (hk : k < 256) (ea : IntKind.u64.wrap (2 ^ (k % 13)) = a) (la : a ≤ 4096) (a0 : 0 < a)
    (hx : ((t : Int) + a - 1) / a * a = x) (h1 : t ≤ x) (h2 : x < t + a) (hn : x + n = t + l) (n0 : 0 < n) (F : Hid (M.fitB t (t + l) n a = true)) (G : Hid (M.fitB t (t + l) (n + 1) a = false))
    (S : Hid (M.fitS t (t + l) n a = x)) (hz : Hid (t + l = z)) (A : Hid (M.fitA t (t + l) n a = z)) (E : Hid (M.fitE t (t + l) n a = z)) (P : Nat) (HP : Hid (M.fitP t (t + l) n a = P)) (w : World) :
    Calls Try.prog 6 #[.int .u32 t, .int .u16 l, .int .u8 k] w fun e w' => e = .returned (.bool true) ∧ Below w.heap.size w w' := by
  obtain ⟨S2, e1⟩ : ∃ S2, M.fitS t (t + l) (n + 1) a = S2 := ⟨_, rfl⟩
  obtain ⟨A2, e2⟩ : ∃ A2, M.fitA t (t + l) (n + 1) a = A2 := ⟨_, rfl⟩
  obtain ⟨E2, e3⟩ : ∃ E2, M.fitE t (t + l) (n + 1) a = E2 := ⟨_, rfl⟩
  obtain ⟨P2, e4⟩ : ∃ P2, M.fitP t (t + l) (n + 1) a = P2 := ⟨_, rfl⟩
  have G1 := Lib.hid e1; have G2 := Lib.hid e2; have G3 := Lib.hid e3; have G4 := Lib.hid e4
  clear e1 e2 e3 e4
  have z1 : decide ((t : Int) + l ≤ x) = false := decide_eq_false (by omega)
  have s1 : True → (t : Int) + l - x = n := fun _ => by omega
  go_enter Try.func6, Try.ntmps6
  go_wp2_with fail
  refine (awake_any _).mono ?_
  rintro _ w1 ⟨rfl, b1⟩
  have X := Box2.new w1 25 (.int .u64 t) (.int .u64 ((t : Int) + l))
  have B2 := below_call b1 (below_new2 w1 (.cells #[.int .u64 t, .int .u64 ((t : Int) + l)] 25))
  go_upto_region 7 with fail
  generalize w1.alloc (.cells #[.int .u64 t, .int .u64 ((t : Int) + l)] 25) = w2 at *
  generalize w1.heap.size = g at *
  have c0 := X.c0
  have c1 := X.c1
  clear hx b1
  have EA := Lib.hid ea; clear ea
  go_wp2_with fail
  refine (fit_at t (t + l) n a x z z P true rfl (by omega) (by omega) EA.out (by omega) (by omega) (by omega) (by omega) S.out A.out E.out HP.out F.out _).mono ?_
  rintro _ w3 ⟨rfl, b3⟩
  have X3 := X.below b3
  have X4 := X3.below (below_new2 w3 (.cells #[.int .u64 (z : Int), .int .u64 (z : Int)] 25))
  have Y4 := Box2.new w3 25 (.int .u64 (z : Int)) (.int .u64 (z : Int))
  have B4 := below_call (below_call B2 b3) (below_new2 w3 (.cells #[.int .u64 (z : Int), .int .u64 (z : Int)] 25))
  clear B2 b3 c0 c1 X X3
  go_upto_region 11 with fail
  generalize w3.alloc (.cells #[.int .u64 (z : Int), .int .u64 (z : Int)] 25) = w4 at *
  generalize w3.heap.size = g3 at *
  have c0 := X4.c0
  have c1 := X4.c1
  go_wp2_with fail
  refine (fit_at t (t + l) (n + 1) a S2 A2 E2 P2 false rfl (by omega) (by omega) EA.out (by omega) (by omega) (by omega) (by omega) G1.out G2.out G3.out G4.out G.out _).mono ?_
  rintro _ w5 ⟨rfl, b5⟩
  have Y5 := (Y4.below b5).below (below_new2 w5 (.cells #[.int .u64 (A2 : Int), .int .u64 (E2 : Int)] 25))
  have HB := Lib.hid (below_call (below_call B4 b5) (below_new2 w5 (.cells #[.int .u64 (A2 : Int), .int .u64 (E2 : Int)] 25)))
  clear X4 Y4 B4 b5 c0 c1
  go_upto_region 12 with fail
  generalize w5.alloc (.cells #[.int .u64 (A2 : Int), .int .u64 (E2 : Int)] 25) = w6 at *
  have c0 := Y5.c0
  have c1 := Y5.c1
  clear Y5
  have hz' := hz.out
  go_wp2_with fail
  refine (left_at z z 0 rfl rfl (by omega) (by omega) (by unfold M.left; omega) _).mono ?_
  rintro _ w7 ⟨rfl, b7⟩
  go_wp2
  go_ret
  exact ⟨rfl, below_call HB.out b7⟩

/-! The walk. -/
theorem walk (a0 : Int) (a1 : Int) (a2 : Int) (w : World) (w0 : (Lit.int .u32 a0).wf = true) (w1 : (Lit.int .u16 a1).wf = true) (w2 : (Lit.int .u8 a2).wf = true) :
    Calls Try.prog 6 #[.int .u32 a0, .int .u16 a1, .int .u8 a2] w fun e w' => e = .returned (.bool true) ∧ Below w.heap.size w w' := by
  obtain ⟨t, ht, rfl⟩ := u32_nat w0
  obtain ⟨l, hl, rfl⟩ := u16_nat w1
  obtain ⟨k, hk, rfl⟩ := u8_nat w2
  obtain ⟨a, ea, pa, la, a0⟩ := shifted13 k
  obtain ⟨u1, u2, u3, u4⟩ := M.last_up t a ht pa la
  obtain ⟨x, hx⟩ : ∃ x, x = M.upV t a := ⟨_, rfl⟩
  have hq : ((t : Int) + a - 1) / a * a = x := by
    rw [show (t : Int) + a - 1 = ((t + a - 1 : Nat) : Int) by omega]
    rw [hx, ← u2]
    simp
  by_cases h : t + l ≤ x
  · exact core_out t l k a x ht hl hk ea la a0 hq (by omega) (by omega) h (Lib.hid (M.fit_false t (t + l) 1 a (by omega) (by omega))) w
  · have f := M.fit_true t (t + l) (t + l - x) a (by omega) u1 (by omega) (by omega)
    obtain ⟨g1, g2, g3, g4⟩ := M.fit_yes _ _ _ _ f
    exact core_in t l k a x (t + l - x) (t + l) ht hl hk ea la a0 hq (by omega) (by omega) (by omega) (by omega) (Lib.hid f) (Lib.hid (M.fit_false t (t + l) (t + l - x + 1) a (by omega) (by omega)))
      (Lib.hid (by rw [g1, ← hx])) (Lib.hid rfl) (Lib.hid (by rw [g2, ← hx]; omega)) (Lib.hid g3) _ (Lib.hid rfl) w

/-! The row's step. -/
set_option maxRecDepth 100000 in
theorem lifted (os : Os) (started : os.Started) (H : Type) (enc : TypeId × Value → H) :
    ReturnsInHanded {} Try.checked os 6 .any (Rows.bumpLastSpec.pre6 enc Try.prog Try.f6 Rows.bumpLastRow.domain false) (Rows.bumpLastSpec.post enc Try.prog Try.f6 false true false false) := by
  refine returnsInHanded_of_change (C := Try.checked) own started (by kernel_rfl) Try.func6
    (ChangeSpec.witness6 (enc := enc) (C := Try.checked) false ⟨#[], #[.int .u32 0, .int .u16 0, .int .u8 0], []⟩ 8 (by kernel_rfl) (by kernel_rfl) (by kernel_rfl) (by kernel_rfl)) ?_
  intro W base args ds gs before hval0 hW hcnd _
  have hval : ∀ (j : Nat) t v, Try.f6.params[j]? = some t → args[j]? = some v → Value.okWide Try.prog W .any base t v := hval0
  have hW' := hW
  obtain ⟨p, q, hA0, hV, rfl, hfz, hnd⟩ := hW
  have hA : DataW.TrodAll enc Try.prog W 0 (fun _ => true) true Try.f6.params.toList args.toList ds p := hA0
  rw [Try.params6] at hA hval
  obtain ⟨v0, vs0, d0, ds0, p0, q0, hargs, rfl, rfl, h0, r0⟩ := trodAll_cons hA
  obtain ⟨v1, vs1, d1, ds1, p1, q1, rfl, rfl, rfl, h1, r1⟩ := trodAll_cons r0
  obtain ⟨v2, vs2, d2, ds2, p2, q2, rfl, rfl, rfl, h2, r2⟩ := trodAll_cons r1
  obtain ⟨rfl, rfl, rfl⟩ := trodAll_nil r2
  obtain rfl : args = #[v0, v1, v2] := by cases args; simp_all
  obtain ⟨rfl, rfl⟩ := trodVars_none hV
  obtain ⟨a0, rfl, rfl, rfl, w0⟩ := open_int Try.underlying41 (hval 0 41 v0 rfl rfl) h0
  obtain ⟨a1, rfl, rfl, rfl, w1⟩ := open_int Try.underlying39 (hval 1 39 v1 rfl rfl) h1
  obtain ⟨a2, rfl, rfl, rfl, w2⟩ := open_int Try.underlying5 (hval 2 5 v2 rfl rfl) h2
  clear hA0 hval0
  refine (walk a0 a1 a2 W w0 w1 w2).mono fun e W' ⟨he, bel⟩ => ?_
  subst he
  exact ⟨_, rfl, _, _, _, [], _, [], hW', trodAll_mk1 (shut_bool Try.underlying4 _), (trodAll_cons_mk (shut_int Try.underlying41 w0) (trodAll_cons_mk (shut_int Try.underlying39 w1) (trodAll_cons_mk (shut_int Try.underlying5 w2) trodAll_mk0))), rfl, bel.frame _, fun h => by cases h⟩

theorem over : Rows.bumpLastRow.holds Try.pinned (OpenSpec.ofChange Rows.bumpLastSpec) :=
  OpenClaim.holds_of_wide 6 Try.f6 rfl rfl rfl rfl rfl rfl rfl ⟨rfl, rfl, rfl, rfl, rfl⟩ rfl rfl rfl rfl rfl (by kernel_rfl) Try.func6 (by kernel_rfl)
    (of_decide_eq_true (by kernel_rfl)) (by unfold Func.isWrapper; first | (rw [if_pos (by decide +kernel)]; kernel_rfl) | (rw [if_neg (by decide +kernel)]; exact ⟨rfl, rfl⟩))
    (fun os started H enc _ => lifted os started H enc)

/-- The statement. -/
theorem proved : Rows.BumpLastSaid := over
#print axioms proved
end Go.Proofs.Ytmmcdnoedilefaa.bumpLast
