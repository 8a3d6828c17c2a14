/-
  Proved: for every uint64 n and at, the statement BitsEnds returns true, and its arguments read as before. No condition beyond those of the statement.
-/
import Derived.Test.YtkpcdaofekndlaaRows
import Derived.WalkKit
import Derived.ProofKit
import Derived.OpenShut
import Derived.Test.YtkpcdaofekndlaaAt
namespace Go.Proofs.Ytkpcdaofekndlaa.bitsEnds
open Go.ChangeShapes Go.WideShapes Go.ChangeAt Go.RowKit
set_option linter.unusedVariables false

theorem own : ownKnob Try.prog.godebug = none := by kernel_rfl

theorem core0 (t : Nat) (ht : t < 18446744073709551616) (w : World) :
    Calls Try.prog 7 #[.int .u64 (0 : Nat), .int .u64 t] w fun e w' => e = .returned (.bool true) ∧ Grown w w' := by
  by_cases hm : t < 18446744073709551615
  · have hb : ((t : Int) == 18446744073709551615) = false := by simp; omega
    go_enter Try.func7, Try.ntmps7
    go_wp2_with fail
    refine (awake_any _).mono ?_
    rintro e w1 ⟨rfl, g1⟩
    have G1 := Lib.hid g1; clear g1
    go_wp2_with fail
    refine (log_at 0 (-1) rfl (by decide) (by rw [M.size_zero]; rfl) _).mono ?_
    rintro e w2 ⟨rfl, g2⟩
    have G2 := Lib.hid g2; clear g2
    go_wp2_with fail
    refine (pages_at 0 0 rfl (by decide) (by decide) _).mono ?_
    rintro e w' ⟨rfl, rfl⟩
    go_wp2_with fail
    refine (in_at t 0 t true rfl rfl rfl ht (by decide) (M.inB_self t ht) _).mono ?_
    rintro e w' ⟨rfl, rfl⟩
    go_wp2_with fail
    refine (in_at (t + 1) 0 t false (by omega) rfl rfl (by omega) (by decide) (M.inB_above t) _).mono ?_
    rintro e w' ⟨rfl, rfl⟩
    go_wp2_with fail
    refine (in_at 0 0 0 true rfl rfl rfl (by decide) (by decide) (M.inB_zero 0 (by decide)) _).mono ?_
    rintro e w' ⟨rfl, rfl⟩
    go_wp2
    go_ret
    exact ⟨retB (by simp), grown_trans G1.out G2.out⟩
  · have hb : ((t : Int) == 18446744073709551615) = true := by simp; omega
    go_enter Try.func7, Try.ntmps7
    go_wp2_with fail
    refine (awake_any _).mono ?_
    rintro e w1 ⟨rfl, g1⟩
    have G1 := Lib.hid g1; clear g1
    go_wp2_with fail
    refine (log_at 0 (-1) rfl (by decide) (by rw [M.size_zero]; rfl) _).mono ?_
    rintro e w2 ⟨rfl, g2⟩
    have G2 := Lib.hid g2; clear g2
    go_wp2_with fail
    refine (pages_at 0 0 rfl (by decide) (by decide) _).mono ?_
    rintro e w' ⟨rfl, rfl⟩
    go_wp2_with fail
    refine (in_at t 0 t true rfl rfl rfl ht (by decide) (M.inB_self t ht) _).mono ?_
    rintro e w' ⟨rfl, rfl⟩
    go_wp2_with fail
    refine (in_at 0 0 0 true rfl rfl rfl (by decide) (by decide) (M.inB_zero 0 (by decide)) _).mono ?_
    rintro e w' ⟨rfl, rfl⟩
    go_wp2
    go_ret
    exact ⟨retB (by simp), grown_trans G1.out G2.out⟩

set_option maxRecDepth 100000 in
theorem core1 (n t s c p : Nat) (q : Bool) (hn : n < 18446744073709551616) (ht : t < 18446744073709551616) (n0 : 0 < n) (hs : s < 64) (hc1 : s ≤ c) (hc2 : c ≤ s + 1)
    (S : Hid ((M.size n : Int) - 1 = s)) (C : Hid (M.size (n - 1) = c)) (P : Hid (M.pgs n = p)) (Q : Hid (M.powB n = q)) (hq : ((c : Int) == (s : Int)) = q)
    (h1 : (n : Int) / 2 ^ s = 1) (p0 : 0 < p) (p1 : p ≤ 4503599627370496) (p2 : p * 4096 < n + 4096) (p3 : n ≤ p * 4096) (w : World) :
    Calls Try.prog 7 #[.int .u64 n, .int .u64 t] w fun e w' => e = .returned (.bool true) ∧ Grown w w' := by
  have d1 : decide (c < s) = false := decide_eq_false (by omega)
  have d2 : decide ((s : Int) + 1 < (c : Int)) = false := decide_eq_false (by omega)
  clear hc1 hc2
  have HN := Lib.hid hn
  have HT := Lib.hid ht
  have P0 := Lib.hid (And.intro p0 (And.intro p1 (And.intro p2 p3)))
  clear p0 p1 p2 p3
  by_cases hp : (p : Int) < 4503599627370496
  · have HP := Lib.hid hp; clear hp
    by_cases hm : t < 18446744073709551615
    · have HM := Lib.hid hm; clear hm hn ht
      go_enter Try.func7, Try.ntmps7
      go_wp2_with fail
      refine (awake_any _).mono ?_
      rintro e w1 ⟨rfl, g1⟩
      have G1 := Lib.hid g1; clear g1
      go_wp2_with fail
      refine (log_at n s rfl HN.out S.out _).mono ?_
      rintro e w2 ⟨rfl, g2⟩
      have G2 := Lib.hid g2; clear g2
      go_wp2_with fail
      refine (ceil_at n c rfl HN.out C.out _).mono ?_
      rintro e w3 ⟨rfl, g3⟩
      have G3 := Lib.hid g3; clear g3
      go_wp2_with fail
      refine (ceil_at n c rfl HN.out C.out _).mono ?_
      rintro e w4 ⟨rfl, g4⟩
      have G4 := Lib.hid g4; clear g4
      go_wp2_with fail
      refine (ceil_at n c rfl HN.out C.out _).mono ?_
      rintro e w5 ⟨rfl, g5⟩
      have G5 := Lib.hid g5; clear g5
      go_wp2_with fail
      refine (pow_at n q rfl HN.out Q.out _).mono ?_
      rintro e w' ⟨rfl, rfl⟩
      go_wp2_with fail
      refine (pages_at n p rfl HN.out P.out _).mono ?_
      rintro e w' ⟨rfl, rfl⟩
      clear hq h1 d1 d2 hs
      have k0 : 0 < p := P0.out.1
      have k3 : ((p : Int) == 0) = false := by simp; omega
      have k4 : ((n : Int) == 0) = false := by simp; omega
      have ke : IntKind.u64.wrap ((p : Int) - 1) = (p : Int) - 1 := by have := P0.out; rw [wrapU]; omega
      have kf : IntKind.u64.wrap (((p : Int) - 1) * 4096) = ((p : Int) - 1) * 4096 := by have := P0.out; rw [wrapU]; omega
      have k1 : decide ((n : Int) ≤ ((p : Int) - 1) * 4096) = false := by have := P0.out; simp; omega
      have k8 : decide ((p : Int) < 4503599627370496) = true := decide_eq_true (by have := HP.out; omega)
      have kg : IntKind.u64.wrap ((p : Int) * 4096) = (p : Int) * 4096 := by have := P0.out; have := HP.out; rw [wrapU]; omega
      have k2 : decide ((p : Int) * 4096 < (n : Int)) = false := by have := P0.out; simp; omega
      go_wp2_with fail
      refine (in_at t 0 t true rfl rfl rfl HT.out (by decide) (M.inB_self t HT.out) _).mono ?_
      rintro e w' ⟨rfl, rfl⟩
      clear ke kf k1 k8 kg k2
      have hb : ((t : Int) == 18446744073709551615) = false := by have := HM.out; have := HT.out; simp; omega
      go_wp2_with fail
      refine (in_at (t + 1) 0 t false (by have := HM.out; rw [wrapU]; omega) rfl rfl (by have := HM.out; omega) (by decide) (M.inB_above t) _).mono ?_
      rintro e w' ⟨rfl, rfl⟩
      go_wp2_with fail
      refine (in_at 0 n n true rfl rfl rfl (by decide) HN.out (M.inB_zero n HN.out) _).mono ?_
      rintro e w' ⟨rfl, rfl⟩
      go_wp2
      go_ret
      exact ⟨retB (by simp), grown_trans G1.out (grown_trans G2.out (grown_trans G3.out (grown_trans G4.out G5.out)))⟩
    · have HM := Lib.hid hm; clear hm hn ht
      go_enter Try.func7, Try.ntmps7
      go_wp2_with fail
      refine (awake_any _).mono ?_
      rintro e w1 ⟨rfl, g1⟩
      have G1 := Lib.hid g1; clear g1
      go_wp2_with fail
      refine (log_at n s rfl HN.out S.out _).mono ?_
      rintro e w2 ⟨rfl, g2⟩
      have G2 := Lib.hid g2; clear g2
      go_wp2_with fail
      refine (ceil_at n c rfl HN.out C.out _).mono ?_
      rintro e w3 ⟨rfl, g3⟩
      have G3 := Lib.hid g3; clear g3
      go_wp2_with fail
      refine (ceil_at n c rfl HN.out C.out _).mono ?_
      rintro e w4 ⟨rfl, g4⟩
      have G4 := Lib.hid g4; clear g4
      go_wp2_with fail
      refine (ceil_at n c rfl HN.out C.out _).mono ?_
      rintro e w5 ⟨rfl, g5⟩
      have G5 := Lib.hid g5; clear g5
      go_wp2_with fail
      refine (pow_at n q rfl HN.out Q.out _).mono ?_
      rintro e w' ⟨rfl, rfl⟩
      go_wp2_with fail
      refine (pages_at n p rfl HN.out P.out _).mono ?_
      rintro e w' ⟨rfl, rfl⟩
      clear hq h1 d1 d2 hs
      have k0 : 0 < p := P0.out.1
      have k3 : ((p : Int) == 0) = false := by simp; omega
      have k4 : ((n : Int) == 0) = false := by simp; omega
      have ke : IntKind.u64.wrap ((p : Int) - 1) = (p : Int) - 1 := by have := P0.out; rw [wrapU]; omega
      have kf : IntKind.u64.wrap (((p : Int) - 1) * 4096) = ((p : Int) - 1) * 4096 := by have := P0.out; rw [wrapU]; omega
      have k1 : decide ((n : Int) ≤ ((p : Int) - 1) * 4096) = false := by have := P0.out; simp; omega
      have k8 : decide ((p : Int) < 4503599627370496) = true := decide_eq_true (by have := HP.out; omega)
      have kg : IntKind.u64.wrap ((p : Int) * 4096) = (p : Int) * 4096 := by have := P0.out; have := HP.out; rw [wrapU]; omega
      have k2 : decide ((p : Int) * 4096 < (n : Int)) = false := by have := P0.out; simp; omega
      go_wp2_with fail
      refine (in_at t 0 t true rfl rfl rfl HT.out (by decide) (M.inB_self t HT.out) _).mono ?_
      rintro e w' ⟨rfl, rfl⟩
      clear ke kf k1 k8 kg k2
      have hb : ((t : Int) == 18446744073709551615) = true := by have := HM.out; have := HT.out; simp; omega
      go_wp2_with fail
      refine (in_at 0 n n true rfl rfl rfl (by decide) HN.out (M.inB_zero n HN.out) _).mono ?_
      rintro e w' ⟨rfl, rfl⟩
      go_wp2
      go_ret
      exact ⟨retB (by simp), grown_trans G1.out (grown_trans G2.out (grown_trans G3.out (grown_trans G4.out G5.out)))⟩
  · have HP := Lib.hid hp; clear hp
    by_cases hm : t < 18446744073709551615
    · have HM := Lib.hid hm; clear hm hn ht
      go_enter Try.func7, Try.ntmps7
      go_wp2_with fail
      refine (awake_any _).mono ?_
      rintro e w1 ⟨rfl, g1⟩
      have G1 := Lib.hid g1; clear g1
      go_wp2_with fail
      refine (log_at n s rfl HN.out S.out _).mono ?_
      rintro e w2 ⟨rfl, g2⟩
      have G2 := Lib.hid g2; clear g2
      go_wp2_with fail
      refine (ceil_at n c rfl HN.out C.out _).mono ?_
      rintro e w3 ⟨rfl, g3⟩
      have G3 := Lib.hid g3; clear g3
      go_wp2_with fail
      refine (ceil_at n c rfl HN.out C.out _).mono ?_
      rintro e w4 ⟨rfl, g4⟩
      have G4 := Lib.hid g4; clear g4
      go_wp2_with fail
      refine (ceil_at n c rfl HN.out C.out _).mono ?_
      rintro e w5 ⟨rfl, g5⟩
      have G5 := Lib.hid g5; clear g5
      go_wp2_with fail
      refine (pow_at n q rfl HN.out Q.out _).mono ?_
      rintro e w' ⟨rfl, rfl⟩
      go_wp2_with fail
      refine (pages_at n p rfl HN.out P.out _).mono ?_
      rintro e w' ⟨rfl, rfl⟩
      clear hq h1 d1 d2 hs
      have k0 : 0 < p := P0.out.1
      have k3 : ((p : Int) == 0) = false := by simp; omega
      have k4 : ((n : Int) == 0) = false := by simp; omega
      have ke : IntKind.u64.wrap ((p : Int) - 1) = (p : Int) - 1 := by have := P0.out; rw [wrapU]; omega
      have kf : IntKind.u64.wrap (((p : Int) - 1) * 4096) = ((p : Int) - 1) * 4096 := by have := P0.out; rw [wrapU]; omega
      have k1 : decide ((n : Int) ≤ ((p : Int) - 1) * 4096) = false := by have := P0.out; simp; omega
      have k8 : decide ((p : Int) < 4503599627370496) = false := decide_eq_false (by have := HP.out; omega)
      go_wp2_with fail
      refine (in_at t 0 t true rfl rfl rfl HT.out (by decide) (M.inB_self t HT.out) _).mono ?_
      rintro e w' ⟨rfl, rfl⟩
      clear ke kf k1 k8
      have hb : ((t : Int) == 18446744073709551615) = false := by have := HM.out; have := HT.out; simp; omega
      go_wp2_with fail
      refine (in_at (t + 1) 0 t false (by have := HM.out; rw [wrapU]; omega) rfl rfl (by have := HM.out; omega) (by decide) (M.inB_above t) _).mono ?_
      rintro e w' ⟨rfl, rfl⟩
      go_wp2_with fail
      refine (in_at 0 n n true rfl rfl rfl (by decide) HN.out (M.inB_zero n HN.out) _).mono ?_
      rintro e w' ⟨rfl, rfl⟩
      go_wp2
      go_ret
      exact ⟨retB (by simp), grown_trans G1.out (grown_trans G2.out (grown_trans G3.out (grown_trans G4.out G5.out)))⟩
    · have HM := Lib.hid hm; clear hm hn ht
      go_enter Try.func7, Try.ntmps7
      go_wp2_with fail
      refine (awake_any _).mono ?_
      rintro e w1 ⟨rfl, g1⟩
      have G1 := Lib.hid g1; clear g1
      go_wp2_with fail
      refine (log_at n s rfl HN.out S.out _).mono ?_
      rintro e w2 ⟨rfl, g2⟩
      have G2 := Lib.hid g2; clear g2
      go_wp2_with fail
      refine (ceil_at n c rfl HN.out C.out _).mono ?_
      rintro e w3 ⟨rfl, g3⟩
      have G3 := Lib.hid g3; clear g3
      go_wp2_with fail
      refine (ceil_at n c rfl HN.out C.out _).mono ?_
      rintro e w4 ⟨rfl, g4⟩
      have G4 := Lib.hid g4; clear g4
      go_wp2_with fail
      refine (ceil_at n c rfl HN.out C.out _).mono ?_
      rintro e w5 ⟨rfl, g5⟩
      have G5 := Lib.hid g5; clear g5
      go_wp2_with fail
      refine (pow_at n q rfl HN.out Q.out _).mono ?_
      rintro e w' ⟨rfl, rfl⟩
      go_wp2_with fail
      refine (pages_at n p rfl HN.out P.out _).mono ?_
      rintro e w' ⟨rfl, rfl⟩
      clear hq h1 d1 d2 hs
      have k0 : 0 < p := P0.out.1
      have k3 : ((p : Int) == 0) = false := by simp; omega
      have k4 : ((n : Int) == 0) = false := by simp; omega
      have ke : IntKind.u64.wrap ((p : Int) - 1) = (p : Int) - 1 := by have := P0.out; rw [wrapU]; omega
      have kf : IntKind.u64.wrap (((p : Int) - 1) * 4096) = ((p : Int) - 1) * 4096 := by have := P0.out; rw [wrapU]; omega
      have k1 : decide ((n : Int) ≤ ((p : Int) - 1) * 4096) = false := by have := P0.out; simp; omega
      have k8 : decide ((p : Int) < 4503599627370496) = false := decide_eq_false (by have := HP.out; omega)
      go_wp2_with fail
      refine (in_at t 0 t true rfl rfl rfl HT.out (by decide) (M.inB_self t HT.out) _).mono ?_
      rintro e w' ⟨rfl, rfl⟩
      clear ke kf k1 k8
      have hb : ((t : Int) == 18446744073709551615) = true := by have := HM.out; have := HT.out; simp; omega
      go_wp2_with fail
      refine (in_at 0 n n true rfl rfl rfl (by decide) HN.out (M.inB_zero n HN.out) _).mono ?_
      rintro e w' ⟨rfl, rfl⟩
      go_wp2
      go_ret
      exact ⟨retB (by simp), grown_trans G1.out (grown_trans G2.out (grown_trans G3.out (grown_trans G4.out G5.out)))⟩

/-! The walk. -/
theorem walk (a0 : Int) (a1 : Int) (w0 : (Lit.int .u64 a0).wf = true) (w1 : (Lit.int .u64 a1).wf = true) (w : World) :
    Calls Try.prog 7 #[.int .u64 a0, .int .u64 a1] w fun e w' => e = .returned (.bool true) ∧ Grown w w' := by
  obtain ⟨n, hn, rfl⟩ := u64_nat w0
  obtain ⟨t, ht, rfl⟩ := u64_nat w1
  by_cases n0 : n = 0
  · subst n0; exact core0 t ht w
  · have s1 := M.size_ge_one n n0
    have s2 := M.size_le n hn
    have b := M.ceil_bounds n n0
    have b1 := M.shift_one n n0
    have b2 := M.ceil_pow n n0
    have b3 := M.pgs_bounds n n0
    have b4 := M.pgs_zero n
    have b5 := M.pgs_le n hn
    refine core1 n t (M.size n - 1) (M.size (n - 1)) (M.pgs n) (M.powB n) hn ht (by omega) (by omega) (by omega) (by omega) (Lib.hid (by omega)) (Lib.hid rfl) (Lib.hid rfl) (Lib.hid rfl) ?_ ?_ (by omega) b5 (by omega) (by omega) w
    · rw [Bool.eq_iff_iff, ← b2, beq_iff_eq]; omega
    · rw [show ((2 : Int) ^ (M.size n - 1)) = ((2 ^ (M.size n - 1) : Nat) : Int) by simp, ← Int.natCast_ediv, b1]; rfl

/-! The row's step. -/
set_option maxRecDepth 100000 in
theorem lifted (os : Os) (started : os.Started) (H : Type) (enc : TypeId × Value → H) :
    ReturnsInHanded {} Try.checked os 7 .any (Rows.bitsEndsSpec.pre6 enc Try.prog Try.f7 Rows.bitsEndsRow.domain false) (Rows.bitsEndsSpec.post enc Try.prog Try.f7 false true false false) := by
  refine returnsInHanded_of_change (C := Try.checked) own started (by kernel_rfl) Try.func7
    (ChangeSpec.witness6 (enc := enc) (C := Try.checked) false ⟨#[], #[.int .u64 0, .int .u64 0], []⟩ 8 (by kernel_rfl) (by kernel_rfl) (by kernel_rfl) (by kernel_rfl)) ?_
  intro W base args ds gs before hval0 hW hcnd _
  have hval : ∀ (j : Nat) t v, Try.f7.params[j]? = some t → args[j]? = some v → Value.okWide Try.prog W .any base t v := hval0
  have hW' := hW
  obtain ⟨p, q, hA0, hV, rfl, hfz, hnd⟩ := hW
  have hA : DataW.TrodAll enc Try.prog W 0 (fun _ => true) true Try.f7.params.toList args.toList ds p := hA0
  rw [Try.params7] at hA hval
  obtain ⟨v0, vs0, d0, ds0, p0, q0, hargs, rfl, rfl, h0, r0⟩ := trodAll_cons hA
  obtain ⟨v1, vs1, d1, ds1, p1, q1, rfl, rfl, rfl, h1, r1⟩ := trodAll_cons r0
  obtain ⟨rfl, rfl, rfl⟩ := trodAll_nil r1
  obtain rfl : args = #[v0, v1] := by cases args; simp_all
  obtain ⟨rfl, rfl⟩ := trodVars_none hV
  obtain ⟨a0, rfl, rfl, rfl, w0⟩ := open_int Try.underlying22 (hval 0 22 v0 rfl rfl) h0
  obtain ⟨a1, rfl, rfl, rfl, w1⟩ := open_int Try.underlying22 (hval 1 22 v1 rfl rfl) h1
  clear hA0 hval0
  simp only [List.append_nil] at hW'
  refine (walk a0 a1 w0 w1 W).mono fun e W' ⟨he, hg⟩ => ?_
  subst he
  exact ⟨_, rfl, post_of_same (pa := []) (pv := []) hW' (fun _ _ _ => (trodAll_cons_mk (shut_bool Try.underlying4 _) trodAll_mk0)) (fun sp _ => (trodAll_cons_mk (shut_int Try.underlying22 w0) (trodAll_cons_mk (shut_int Try.underlying22 w1) trodAll_mk0))) (fun _ _ => rfl) rfl
    (hg.frame _) hg.2.1 (ok_one (by kernel_rfl) rfl (okWide_bool_mk Try.underlying4 _))⟩

theorem over : Rows.bitsEndsRow.holds Try.pinned (OpenSpec.ofChange Rows.bitsEndsSpec) :=
  OpenClaim.holds_of_wide 7 Try.f7 rfl rfl rfl rfl rfl rfl rfl ⟨rfl, rfl, rfl, rfl, rfl⟩ rfl rfl rfl rfl rfl (by kernel_rfl) Try.func7 (by kernel_rfl)
    (of_decide_eq_true (by kernel_rfl)) (by unfold Func.isWrapper; first | (rw [if_pos (by decide +kernel)]; kernel_rfl) | (rw [if_neg (by decide +kernel)]; exact ⟨rfl, rfl⟩))
    (fun os started H enc _ => lifted os started H enc)

/-- The statement. -/
theorem proved : Rows.BitsEndsSaid :=
  over
#print axioms proved
end Go.Proofs.Ytkpcdaofekndlaa.bitsEnds
