/-
  HandleBack: what is packed is unpacked as it was, and what is unpacked packed; others of the same slot or generation are other handles; for every input the law returns true, and the arguments read behind the call as they read before. No condition.
-/
import Derived.Test.YtpcckdkebbdbbaaRows
import Derived.WalkKit
import Derived.ProofKit
import Derived.OpenShut
import Derived.ShutString
import Derived.ChangeOld
import Derived.Below
import Derived.Test.YtpcckdkebbdbbaaA12
namespace Go.Proofs.Ytpcckdkebbdbbaa.handleBack
open Go.ChangeShapes Go.WideShapes Go.ChangeAt Go.RowKit
set_option linter.unusedVariables false

theorem own : ownKnob Try.prog.godebug = none := by kernel_rfl

theorem xor_one (s : Nat) (hs : s < 4294967296) : ∃ t : Nat, bits .xor .u32 (s : Int) 1 = (t : Int) ∧ t < 4294967296 ∧ t ≠ s := by
  refine ⟨s ^^^ 1, ?_, ?_, ?_⟩
  · have h1 : (BitVec.ofInt 32 (s : Int)).toNat = s := by
      rw [BitVec.ofInt_natCast, BitVec.toNat_ofNat]; exact Nat.mod_eq_of_lt (by omega)
    have hx : s ^^^ 1 < 2 ^ 32 := Nat.xor_lt_two_pow (by omega) (by omega)
    show IntKind.u32.wrap ((BitVec.ofInt 32 (s : Int) ^^^ BitVec.ofInt 32 1).toNat : Int) = _
    rw [BitVec.toNat_xor, h1, IntKind.wrap_u32, show (BitVec.ofInt 32 1).toNat = 1 from rfl]
    omega
  · exact Nat.xor_lt_two_pow (n := 32) (by omega) (by omega)
  · intro e
    have h0 : s ^^^ s = s ^^^ (s ^^^ 1) := by rw [e]
    rw [← Nat.xor_assoc, Nat.xor_self, Nat.zero_xor] at h0
    cases h0
theorem core1 (a s t g h : Nat) (x : Int) (hs : s < 4294967296) (ht : t < 4294967296) (hne : t ≠ s) (et : bits .xor .u32 (s : Int) 1 = (t : Int)) (hh : h < 18446744073709551616)
    (ek : ((a : Int) % 3) = 0) (ex : ((g : Int) % 1073741824) = x) (w : World) :
    Calls Try.prog 5 #[.int .u8 a, .int .u32 s, .int .u32 g, .int .u64 h] w fun e w' => e = .returned (.bool true) ∧ Below w.heap.size w w' := by
  have x0 : 0 ≤ x := by omega
  have x1 : x < 1073741824 := by omega
  obtain ⟨n, hn⟩ : ∃ n, M.hnV x = n := ⟨_, rfl⟩
  have hnx : 0 ≤ n ∧ n < 1073741824 ∧ n ≠ x := by
    by_cases hl : x < 1073741823
    · rw [M.hnV_yes x ⟨x0, hl⟩] at hn; omega
    · rw [M.hnV_no x (by omega)] at hn; omega
  obtain ⟨n0, n1, n2⟩ := hnx
  obtain ⟨p, hp⟩ : ∃ p, M.hpV 1 s x = p := ⟨_, rfl⟩
  obtain ⟨p1, hp1⟩ : ∃ p, M.hpV 1 s n = p := ⟨_, rfl⟩
  obtain ⟨p2, hp2⟩ : ∃ p, M.hpV 2 s x = p := ⟨_, rfl⟩
  obtain ⟨p3, hp3⟩ : ∃ p, M.hpV 1 t x = p := ⟨_, rfl⟩
  have q0 := hp; rw [M.hpV_yes _ _ _ (by omega)] at q0
  have q1 := hp1; rw [M.hpV_yes _ _ _ (by omega)] at q1
  have q2 := hp2; rw [M.hpV_yes _ _ _ (by omega)] at q2
  have q3 := hp3; rw [M.hpV_yes _ _ _ (by omega)] at q3
  have c1 : (p == p1) = false := by simp; omega
  have c2 : (p == p2) = false := by simp; omega
  have c3 : (p == p3) = false := by simp; omega
  obtain ⟨P, hP⟩ : ∃ P : Nat, p = P := ⟨p.toNat, by omega⟩
  obtain ⟨xn, hxn⟩ : ∃ P : Nat, x = P := ⟨x.toNat, by omega⟩
  have u1 : M.huK P = 1 := by unfold M.huK; omega
  have ub : M.huB P = true := decide_eq_true (by omega)
  have u2 : M.huS P = s := by rw [M.huS, if_pos ub]; omega
  have u3 : M.huG P = xn := by rw [M.huG, if_pos ub]; omega
  have UP := Lib.hid (show P < 18446744073709551616 by omega)
  have U1 := Lib.hid u1; have U2 := Lib.hid u2; have U3 := Lib.hid u3; have UB := Lib.hid ub; have HPn := Lib.hid hP
  have lx1 := Lib.hid (show (-9223372036854775808 : Int) ≤ x by omega)
  have lx2 := Lib.hid (show x ≤ (9223372036854775807 : Int) by omega)
  have HN := Lib.hid hn; have H0 := Lib.hid hp; have H1 := Lib.hid hp1; have H2 := Lib.hid hp2; have H3 := Lib.hid hp3
  clear hp hp1 hp2 hp3 q0 q1 q2 q3 u1 ub u2 u3 hP hn
  obtain ⟨k2, hk⟩ : ∃ k, M.huK h = k := ⟨_, rfl⟩
  obtain ⟨s2, hs2⟩ : ∃ k, M.huS h = k := ⟨_, rfl⟩
  obtain ⟨g2, hg2⟩ : ∃ k, M.huG h = k := ⟨_, rfl⟩
  have fk : k2 ≤ 3 := by rw [← hk]; unfold M.huK; omega
  have K1 := Lib.hid hk; have K2 := Lib.hid hs2; have K3 := Lib.hid hg2
  have zq : ((h : Int) / 4611686018427387904) = (k2 : Int) := by have := hk; unfold M.huK at this; omega
  cases hb : M.huB h with
  | false =>
    have k0 : k2 = 0 := by
      have : ¬ 4611686018427387904 ≤ h := of_decide_eq_false hb
      rw [← hk]; unfold M.huK; omega
    subst k0
    have KB := Lib.hid hb
    clear hk hs2 hg2 hb
    subst hxn
    go_enter Try.func5, Try.ntmps5
    go_wp2_with fail
    refine (awake_any _).mono ?_
    rintro _ w1 ⟨rfl, b1⟩
    go_wp2_with fail
    refine (hpack_at 1 s xn p rfl rfl rfl (by decide) (by decide) H0.out _).mono ?_
    rintro _ w2 ⟨rfl, rfl⟩
    go_wp2_with fail
    refine (hunpack_at P 1 s xn true HPn.out UP.out U1.out U2.out U3.out UB.out _).mono ?_
    rintro _ w2 ⟨rfl, b2⟩
    go_wp2_with fail
    refine (hnext_at xn n rfl lx1.out lx2.out HN.out _).mono ?_
    rintro _ w3 ⟨rfl, rfl⟩
    go_wp2_with fail
    refine (hpack_at 1 s n p1 rfl rfl rfl (by decide) (by decide) H1.out _).mono ?_
    rintro _ w3 ⟨rfl, rfl⟩
    go_wp2_with fail
    refine (hpack_at 2 s xn p2 rfl rfl rfl (by decide) (by decide) H2.out _).mono ?_
    rintro _ w3 ⟨rfl, rfl⟩
    go_wp2_with fail
    refine (hpack_at 1 t xn p3 rfl (by first | rfl | exact et) rfl (by decide) (by decide) H3.out _).mono ?_
    rintro _ w3 ⟨rfl, rfl⟩
    go_wp2_with fail
    refine (hunpack_at h 0 s2 g2 false rfl hh K1.out K2.out K3.out KB.out _).mono ?_
    rintro _ w4 ⟨rfl, b4⟩
    have HB := Lib.hid (below_call (below_call b1 b2) b4)
    go_wp2
    go_ret
    exact ⟨retB (by simp), HB.out⟩
  | true =>
    have hge : 4611686018427387904 ≤ h := of_decide_eq_true hb
    have k0 : 1 ≤ k2 := by rw [← hk]; unfold M.huK; omega
    have z0 : ((k2 : Int) != 0) = true := by simp; omega
    have HQ := Lib.hid (show M.hpV k2 s2 g2 = h by
      rw [M.huS, if_pos hb] at hs2; rw [M.huG, if_pos hb] at hg2; unfold M.huK at hk
      rw [M.hpV_yes _ _ _ (by omega)]; omega)
    have KB := Lib.hid hb
    clear hk hs2 hg2 hb hge
    subst hxn
    go_enter Try.func5, Try.ntmps5
    go_wp2_with fail
    refine (awake_any _).mono ?_
    rintro _ w1 ⟨rfl, b1⟩
    go_wp2_with fail
    refine (hpack_at 1 s xn p rfl rfl rfl (by decide) (by decide) H0.out _).mono ?_
    rintro _ w2 ⟨rfl, rfl⟩
    go_wp2_with fail
    refine (hunpack_at P 1 s xn true HPn.out UP.out U1.out U2.out U3.out UB.out _).mono ?_
    rintro _ w2 ⟨rfl, b2⟩
    go_wp2_with fail
    refine (hnext_at xn n rfl lx1.out lx2.out HN.out _).mono ?_
    rintro _ w3 ⟨rfl, rfl⟩
    go_wp2_with fail
    refine (hpack_at 1 s n p1 rfl rfl rfl (by decide) (by decide) H1.out _).mono ?_
    rintro _ w3 ⟨rfl, rfl⟩
    go_wp2_with fail
    refine (hpack_at 2 s xn p2 rfl rfl rfl (by decide) (by decide) H2.out _).mono ?_
    rintro _ w3 ⟨rfl, rfl⟩
    go_wp2_with fail
    refine (hpack_at 1 t xn p3 rfl (by first | rfl | exact et) rfl (by decide) (by decide) H3.out _).mono ?_
    rintro _ w3 ⟨rfl, rfl⟩
    go_wp2_with fail
    refine (hunpack_at h k2 s2 g2 true rfl hh K1.out K2.out K3.out KB.out _).mono ?_
    rintro _ w4 ⟨rfl, b4⟩
    have HB := Lib.hid (below_call (below_call b1 b2) b4)
    go_wp2_with fail
    refine (hpack_at k2 s2 g2 h rfl rfl rfl (by omega) (by omega) HQ.out _).mono ?_
    rintro _ w4 ⟨rfl, rfl⟩
    go_wp2
    go_ret
    exact ⟨retB (by simp), HB.out⟩
theorem core2 (a s t g h : Nat) (x : Int) (hs : s < 4294967296) (ht : t < 4294967296) (hne : t ≠ s) (et : bits .xor .u32 (s : Int) 1 = (t : Int)) (hh : h < 18446744073709551616)
    (ek : ((a : Int) % 3) = 1) (ex : ((g : Int) % 1073741824) = x) (w : World) :
    Calls Try.prog 5 #[.int .u8 a, .int .u32 s, .int .u32 g, .int .u64 h] w fun e w' => e = .returned (.bool true) ∧ Below w.heap.size w w' := by
  have x0 : 0 ≤ x := by omega
  have x1 : x < 1073741824 := by omega
  obtain ⟨n, hn⟩ : ∃ n, M.hnV x = n := ⟨_, rfl⟩
  have hnx : 0 ≤ n ∧ n < 1073741824 ∧ n ≠ x := by
    by_cases hl : x < 1073741823
    · rw [M.hnV_yes x ⟨x0, hl⟩] at hn; omega
    · rw [M.hnV_no x (by omega)] at hn; omega
  obtain ⟨n0, n1, n2⟩ := hnx
  obtain ⟨p, hp⟩ : ∃ p, M.hpV 2 s x = p := ⟨_, rfl⟩
  obtain ⟨p1, hp1⟩ : ∃ p, M.hpV 2 s n = p := ⟨_, rfl⟩
  obtain ⟨p2, hp2⟩ : ∃ p, M.hpV 3 s x = p := ⟨_, rfl⟩
  obtain ⟨p3, hp3⟩ : ∃ p, M.hpV 2 t x = p := ⟨_, rfl⟩
  have q0 := hp; rw [M.hpV_yes _ _ _ (by omega)] at q0
  have q1 := hp1; rw [M.hpV_yes _ _ _ (by omega)] at q1
  have q2 := hp2; rw [M.hpV_yes _ _ _ (by omega)] at q2
  have q3 := hp3; rw [M.hpV_yes _ _ _ (by omega)] at q3
  have c1 : (p == p1) = false := by simp; omega
  have c2 : (p == p2) = false := by simp; omega
  have c3 : (p == p3) = false := by simp; omega
  obtain ⟨P, hP⟩ : ∃ P : Nat, p = P := ⟨p.toNat, by omega⟩
  obtain ⟨xn, hxn⟩ : ∃ P : Nat, x = P := ⟨x.toNat, by omega⟩
  have u1 : M.huK P = 2 := by unfold M.huK; omega
  have ub : M.huB P = true := decide_eq_true (by omega)
  have u2 : M.huS P = s := by rw [M.huS, if_pos ub]; omega
  have u3 : M.huG P = xn := by rw [M.huG, if_pos ub]; omega
  have UP := Lib.hid (show P < 18446744073709551616 by omega)
  have U1 := Lib.hid u1; have U2 := Lib.hid u2; have U3 := Lib.hid u3; have UB := Lib.hid ub; have HPn := Lib.hid hP
  have lx1 := Lib.hid (show (-9223372036854775808 : Int) ≤ x by omega)
  have lx2 := Lib.hid (show x ≤ (9223372036854775807 : Int) by omega)
  have HN := Lib.hid hn; have H0 := Lib.hid hp; have H1 := Lib.hid hp1; have H2 := Lib.hid hp2; have H3 := Lib.hid hp3
  clear hp hp1 hp2 hp3 q0 q1 q2 q3 u1 ub u2 u3 hP hn
  obtain ⟨k2, hk⟩ : ∃ k, M.huK h = k := ⟨_, rfl⟩
  obtain ⟨s2, hs2⟩ : ∃ k, M.huS h = k := ⟨_, rfl⟩
  obtain ⟨g2, hg2⟩ : ∃ k, M.huG h = k := ⟨_, rfl⟩
  have fk : k2 ≤ 3 := by rw [← hk]; unfold M.huK; omega
  have K1 := Lib.hid hk; have K2 := Lib.hid hs2; have K3 := Lib.hid hg2
  have zq : ((h : Int) / 4611686018427387904) = (k2 : Int) := by have := hk; unfold M.huK at this; omega
  cases hb : M.huB h with
  | false =>
    have k0 : k2 = 0 := by
      have : ¬ 4611686018427387904 ≤ h := of_decide_eq_false hb
      rw [← hk]; unfold M.huK; omega
    subst k0
    have KB := Lib.hid hb
    clear hk hs2 hg2 hb
    subst hxn
    go_enter Try.func5, Try.ntmps5
    go_wp2_with fail
    refine (awake_any _).mono ?_
    rintro _ w1 ⟨rfl, b1⟩
    go_wp2_with fail
    refine (hpack_at 2 s xn p rfl rfl rfl (by decide) (by decide) H0.out _).mono ?_
    rintro _ w2 ⟨rfl, rfl⟩
    go_wp2_with fail
    refine (hunpack_at P 2 s xn true HPn.out UP.out U1.out U2.out U3.out UB.out _).mono ?_
    rintro _ w2 ⟨rfl, b2⟩
    go_wp2_with fail
    refine (hnext_at xn n rfl lx1.out lx2.out HN.out _).mono ?_
    rintro _ w3 ⟨rfl, rfl⟩
    go_wp2_with fail
    refine (hpack_at 2 s n p1 rfl rfl rfl (by decide) (by decide) H1.out _).mono ?_
    rintro _ w3 ⟨rfl, rfl⟩
    go_wp2_with fail
    refine (hpack_at 3 s xn p2 rfl rfl rfl (by decide) (by decide) H2.out _).mono ?_
    rintro _ w3 ⟨rfl, rfl⟩
    go_wp2_with fail
    refine (hpack_at 2 t xn p3 rfl (by first | rfl | exact et) rfl (by decide) (by decide) H3.out _).mono ?_
    rintro _ w3 ⟨rfl, rfl⟩
    go_wp2_with fail
    refine (hunpack_at h 0 s2 g2 false rfl hh K1.out K2.out K3.out KB.out _).mono ?_
    rintro _ w4 ⟨rfl, b4⟩
    have HB := Lib.hid (below_call (below_call b1 b2) b4)
    go_wp2
    go_ret
    exact ⟨retB (by simp), HB.out⟩
  | true =>
    have hge : 4611686018427387904 ≤ h := of_decide_eq_true hb
    have k0 : 1 ≤ k2 := by rw [← hk]; unfold M.huK; omega
    have z0 : ((k2 : Int) != 0) = true := by simp; omega
    have HQ := Lib.hid (show M.hpV k2 s2 g2 = h by
      rw [M.huS, if_pos hb] at hs2; rw [M.huG, if_pos hb] at hg2; unfold M.huK at hk
      rw [M.hpV_yes _ _ _ (by omega)]; omega)
    have KB := Lib.hid hb
    clear hk hs2 hg2 hb hge
    subst hxn
    go_enter Try.func5, Try.ntmps5
    go_wp2_with fail
    refine (awake_any _).mono ?_
    rintro _ w1 ⟨rfl, b1⟩
    go_wp2_with fail
    refine (hpack_at 2 s xn p rfl rfl rfl (by decide) (by decide) H0.out _).mono ?_
    rintro _ w2 ⟨rfl, rfl⟩
    go_wp2_with fail
    refine (hunpack_at P 2 s xn true HPn.out UP.out U1.out U2.out U3.out UB.out _).mono ?_
    rintro _ w2 ⟨rfl, b2⟩
    go_wp2_with fail
    refine (hnext_at xn n rfl lx1.out lx2.out HN.out _).mono ?_
    rintro _ w3 ⟨rfl, rfl⟩
    go_wp2_with fail
    refine (hpack_at 2 s n p1 rfl rfl rfl (by decide) (by decide) H1.out _).mono ?_
    rintro _ w3 ⟨rfl, rfl⟩
    go_wp2_with fail
    refine (hpack_at 3 s xn p2 rfl rfl rfl (by decide) (by decide) H2.out _).mono ?_
    rintro _ w3 ⟨rfl, rfl⟩
    go_wp2_with fail
    refine (hpack_at 2 t xn p3 rfl (by first | rfl | exact et) rfl (by decide) (by decide) H3.out _).mono ?_
    rintro _ w3 ⟨rfl, rfl⟩
    go_wp2_with fail
    refine (hunpack_at h k2 s2 g2 true rfl hh K1.out K2.out K3.out KB.out _).mono ?_
    rintro _ w4 ⟨rfl, b4⟩
    have HB := Lib.hid (below_call (below_call b1 b2) b4)
    go_wp2_with fail
    refine (hpack_at k2 s2 g2 h rfl rfl rfl (by omega) (by omega) HQ.out _).mono ?_
    rintro _ w4 ⟨rfl, rfl⟩
    go_wp2
    go_ret
    exact ⟨retB (by simp), HB.out⟩
theorem core3 (a s t g h : Nat) (x : Int) (hs : s < 4294967296) (ht : t < 4294967296) (hne : t ≠ s) (et : bits .xor .u32 (s : Int) 1 = (t : Int)) (hh : h < 18446744073709551616)
    (ek : ((a : Int) % 3) = 2) (ex : ((g : Int) % 1073741824) = x) (w : World) :
    Calls Try.prog 5 #[.int .u8 a, .int .u32 s, .int .u32 g, .int .u64 h] w fun e w' => e = .returned (.bool true) ∧ Below w.heap.size w w' := by
  have x0 : 0 ≤ x := by omega
  have x1 : x < 1073741824 := by omega
  obtain ⟨n, hn⟩ : ∃ n, M.hnV x = n := ⟨_, rfl⟩
  have hnx : 0 ≤ n ∧ n < 1073741824 ∧ n ≠ x := by
    by_cases hl : x < 1073741823
    · rw [M.hnV_yes x ⟨x0, hl⟩] at hn; omega
    · rw [M.hnV_no x (by omega)] at hn; omega
  obtain ⟨n0, n1, n2⟩ := hnx
  obtain ⟨p, hp⟩ : ∃ p, M.hpV 3 s x = p := ⟨_, rfl⟩
  obtain ⟨p1, hp1⟩ : ∃ p, M.hpV 3 s n = p := ⟨_, rfl⟩
  obtain ⟨p2, hp2⟩ : ∃ p, M.hpV 1 s x = p := ⟨_, rfl⟩
  obtain ⟨p3, hp3⟩ : ∃ p, M.hpV 3 t x = p := ⟨_, rfl⟩
  have q0 := hp; rw [M.hpV_yes _ _ _ (by omega)] at q0
  have q1 := hp1; rw [M.hpV_yes _ _ _ (by omega)] at q1
  have q2 := hp2; rw [M.hpV_yes _ _ _ (by omega)] at q2
  have q3 := hp3; rw [M.hpV_yes _ _ _ (by omega)] at q3
  have c1 : (p == p1) = false := by simp; omega
  have c2 : (p == p2) = false := by simp; omega
  have c3 : (p == p3) = false := by simp; omega
  obtain ⟨P, hP⟩ : ∃ P : Nat, p = P := ⟨p.toNat, by omega⟩
  obtain ⟨xn, hxn⟩ : ∃ P : Nat, x = P := ⟨x.toNat, by omega⟩
  have u1 : M.huK P = 3 := by unfold M.huK; omega
  have ub : M.huB P = true := decide_eq_true (by omega)
  have u2 : M.huS P = s := by rw [M.huS, if_pos ub]; omega
  have u3 : M.huG P = xn := by rw [M.huG, if_pos ub]; omega
  have UP := Lib.hid (show P < 18446744073709551616 by omega)
  have U1 := Lib.hid u1; have U2 := Lib.hid u2; have U3 := Lib.hid u3; have UB := Lib.hid ub; have HPn := Lib.hid hP
  have lx1 := Lib.hid (show (-9223372036854775808 : Int) ≤ x by omega)
  have lx2 := Lib.hid (show x ≤ (9223372036854775807 : Int) by omega)
  have HN := Lib.hid hn; have H0 := Lib.hid hp; have H1 := Lib.hid hp1; have H2 := Lib.hid hp2; have H3 := Lib.hid hp3
  clear hp hp1 hp2 hp3 q0 q1 q2 q3 u1 ub u2 u3 hP hn
  obtain ⟨k2, hk⟩ : ∃ k, M.huK h = k := ⟨_, rfl⟩
  obtain ⟨s2, hs2⟩ : ∃ k, M.huS h = k := ⟨_, rfl⟩
  obtain ⟨g2, hg2⟩ : ∃ k, M.huG h = k := ⟨_, rfl⟩
  have fk : k2 ≤ 3 := by rw [← hk]; unfold M.huK; omega
  have K1 := Lib.hid hk; have K2 := Lib.hid hs2; have K3 := Lib.hid hg2
  have zq : ((h : Int) / 4611686018427387904) = (k2 : Int) := by have := hk; unfold M.huK at this; omega
  cases hb : M.huB h with
  | false =>
    have k0 : k2 = 0 := by
      have : ¬ 4611686018427387904 ≤ h := of_decide_eq_false hb
      rw [← hk]; unfold M.huK; omega
    subst k0
    have KB := Lib.hid hb
    clear hk hs2 hg2 hb
    subst hxn
    go_enter Try.func5, Try.ntmps5
    go_wp2_with fail
    refine (awake_any _).mono ?_
    rintro _ w1 ⟨rfl, b1⟩
    go_wp2_with fail
    refine (hpack_at 3 s xn p rfl rfl rfl (by decide) (by decide) H0.out _).mono ?_
    rintro _ w2 ⟨rfl, rfl⟩
    go_wp2_with fail
    refine (hunpack_at P 3 s xn true HPn.out UP.out U1.out U2.out U3.out UB.out _).mono ?_
    rintro _ w2 ⟨rfl, b2⟩
    go_wp2_with fail
    refine (hnext_at xn n rfl lx1.out lx2.out HN.out _).mono ?_
    rintro _ w3 ⟨rfl, rfl⟩
    go_wp2_with fail
    refine (hpack_at 3 s n p1 rfl rfl rfl (by decide) (by decide) H1.out _).mono ?_
    rintro _ w3 ⟨rfl, rfl⟩
    go_wp2_with fail
    refine (hpack_at 1 s xn p2 rfl rfl rfl (by decide) (by decide) H2.out _).mono ?_
    rintro _ w3 ⟨rfl, rfl⟩
    go_wp2_with fail
    refine (hpack_at 3 t xn p3 rfl (by first | rfl | exact et) rfl (by decide) (by decide) H3.out _).mono ?_
    rintro _ w3 ⟨rfl, rfl⟩
    go_wp2_with fail
    refine (hunpack_at h 0 s2 g2 false rfl hh K1.out K2.out K3.out KB.out _).mono ?_
    rintro _ w4 ⟨rfl, b4⟩
    have HB := Lib.hid (below_call (below_call b1 b2) b4)
    go_wp2
    go_ret
    exact ⟨retB (by simp), HB.out⟩
  | true =>
    have hge : 4611686018427387904 ≤ h := of_decide_eq_true hb
    have k0 : 1 ≤ k2 := by rw [← hk]; unfold M.huK; omega
    have z0 : ((k2 : Int) != 0) = true := by simp; omega
    have HQ := Lib.hid (show M.hpV k2 s2 g2 = h by
      rw [M.huS, if_pos hb] at hs2; rw [M.huG, if_pos hb] at hg2; unfold M.huK at hk
      rw [M.hpV_yes _ _ _ (by omega)]; omega)
    have KB := Lib.hid hb
    clear hk hs2 hg2 hb hge
    subst hxn
    go_enter Try.func5, Try.ntmps5
    go_wp2_with fail
    refine (awake_any _).mono ?_
    rintro _ w1 ⟨rfl, b1⟩
    go_wp2_with fail
    refine (hpack_at 3 s xn p rfl rfl rfl (by decide) (by decide) H0.out _).mono ?_
    rintro _ w2 ⟨rfl, rfl⟩
    go_wp2_with fail
    refine (hunpack_at P 3 s xn true HPn.out UP.out U1.out U2.out U3.out UB.out _).mono ?_
    rintro _ w2 ⟨rfl, b2⟩
    go_wp2_with fail
    refine (hnext_at xn n rfl lx1.out lx2.out HN.out _).mono ?_
    rintro _ w3 ⟨rfl, rfl⟩
    go_wp2_with fail
    refine (hpack_at 3 s n p1 rfl rfl rfl (by decide) (by decide) H1.out _).mono ?_
    rintro _ w3 ⟨rfl, rfl⟩
    go_wp2_with fail
    refine (hpack_at 1 s xn p2 rfl rfl rfl (by decide) (by decide) H2.out _).mono ?_
    rintro _ w3 ⟨rfl, rfl⟩
    go_wp2_with fail
    refine (hpack_at 3 t xn p3 rfl (by first | rfl | exact et) rfl (by decide) (by decide) H3.out _).mono ?_
    rintro _ w3 ⟨rfl, rfl⟩
    go_wp2_with fail
    refine (hunpack_at h k2 s2 g2 true rfl hh K1.out K2.out K3.out KB.out _).mono ?_
    rintro _ w4 ⟨rfl, b4⟩
    have HB := Lib.hid (below_call (below_call b1 b2) b4)
    go_wp2_with fail
    refine (hpack_at k2 s2 g2 h rfl rfl rfl (by omega) (by omega) HQ.out _).mono ?_
    rintro _ w4 ⟨rfl, rfl⟩
    go_wp2
    go_ret
    exact ⟨retB (by simp), HB.out⟩

/-! The walk. -/
theorem walk (a0 : Int) (a1 : Int) (a2 : Int) (a3 : Int) (w : World) (w0 : (Lit.int .u8 a0).wf = true) (w1 : (Lit.int .u32 a1).wf = true) (w2 : (Lit.int .u32 a2).wf = true) (w3 : (Lit.int .u64 a3).wf = true) :
    Calls Try.prog 5 #[.int .u8 a0, .int .u32 a1, .int .u32 a2, .int .u64 a3] w fun e w' => e = .returned (.bool true) ∧ Below w.heap.size w w' := by
  obtain ⟨a, ha, rfl⟩ := u8_nat w0
  obtain ⟨s, hs, rfl⟩ := u32_nat w1
  obtain ⟨g, hg, rfl⟩ := u32_nat w2
  obtain ⟨h, hh, rfl⟩ := u64_nat w3
  obtain ⟨t, et, ht, hne⟩ := xor_one s hs
  rcases (show a % 3 = 0 ∨ a % 3 = 1 ∨ a % 3 = 2 by omega) with e | e | e
  · exact core1 a s t g h _ hs ht hne et hh (by omega) rfl w
  · exact core2 a s t g h _ hs ht hne et hh (by omega) rfl w
  · exact core3 a s t g h _ hs ht hne et hh (by omega) rfl w

/-! The row's step. -/
set_option maxRecDepth 100000 in
theorem lifted (os : Os) (started : os.Started) (H : Type) (enc : TypeId × Value → H) :
    ReturnsInHanded {} Try.checked os 5 .any (Rows.handleBackSpec.pre6 enc Try.prog Try.f5 Rows.handleBackRow.domain false) (Rows.handleBackSpec.post enc Try.prog Try.f5 false true false false) := by
  refine returnsInHanded_of_change (C := Try.checked) own started (by kernel_rfl) Try.func5
    (ChangeSpec.witness6 (enc := enc) (C := Try.checked) false ⟨#[], #[.int .u8 0, .int .u32 0, .int .u32 0, .int .u64 0], []⟩ 8 (by kernel_rfl) (by kernel_rfl) (by kernel_rfl) (by kernel_rfl)) ?_
  intro W base args ds gs before hval0 hW hcnd _
  have hval : ∀ (j : Nat) t v, Try.f5.params[j]? = some t → args[j]? = some v → Value.okWide Try.prog W .any base t v := hval0
  have hW' := hW
  obtain ⟨p, q, hA0, hV, rfl, hfz, hnd⟩ := hW
  have hA : DataW.TrodAll enc Try.prog W 0 (fun _ => true) true Try.f5.params.toList args.toList ds p := hA0
  rw [Try.params5] at hA hval
  obtain ⟨v0, vs0, d0, ds0, p0, q0, hargs, rfl, rfl, h0, r0⟩ := trodAll_cons hA
  obtain ⟨v1, vs1, d1, ds1, p1, q1, rfl, rfl, rfl, h1, r1⟩ := trodAll_cons r0
  obtain ⟨v2, vs2, d2, ds2, p2, q2, rfl, rfl, rfl, h2, r2⟩ := trodAll_cons r1
  obtain ⟨v3, vs3, d3, ds3, p3, q3, rfl, rfl, rfl, h3, r3⟩ := trodAll_cons r2
  obtain ⟨rfl, rfl, rfl⟩ := trodAll_nil r3
  obtain rfl : args = #[v0, v1, v2, v3] := by cases args; simp_all
  obtain ⟨rfl, rfl⟩ := trodVars_none hV
  obtain ⟨a0, rfl, rfl, rfl, w0⟩ := open_int Try.underlying5 (hval 0 5 v0 rfl rfl) h0
  obtain ⟨a1, rfl, rfl, rfl, w1⟩ := open_int Try.underlying30 (hval 1 30 v1 rfl rfl) h1
  obtain ⟨a2, rfl, rfl, rfl, w2⟩ := open_int Try.underlying30 (hval 2 30 v2 rfl rfl) h2
  obtain ⟨a3, rfl, rfl, rfl, w3⟩ := open_int Try.underlying23 (hval 3 23 v3 rfl rfl) h3
  clear hA0 hval0
  refine (walk a0 a1 a2 a3 W w0 w1 w2 w3).mono fun e W' ⟨he, bel⟩ => ?_
  subst he
  exact ⟨_, rfl, _, _, _, [], _, [], hW', trodAll_mk1 (shut_bool Try.underlying4 _), (trodAll_cons_mk (shut_int Try.underlying5 w0) (trodAll_cons_mk (shut_int Try.underlying30 w1) (trodAll_cons_mk (shut_int Try.underlying30 w2) (trodAll_cons_mk (shut_int Try.underlying23 w3) trodAll_mk0)))), rfl, bel.frame _, fun h => by cases h⟩

theorem over : Rows.handleBackRow.holds Try.pinned (OpenSpec.ofChange Rows.handleBackSpec) :=
  OpenClaim.holds_of_wide 5 Try.f5 rfl rfl rfl rfl rfl rfl rfl ⟨rfl, rfl, rfl, rfl, rfl⟩ rfl rfl rfl rfl rfl (by kernel_rfl) Try.func5 (by kernel_rfl)
    (of_decide_eq_true (by kernel_rfl)) (by unfold Func.isWrapper; first | (rw [if_pos (by decide +kernel)]; kernel_rfl) | (rw [if_neg (by decide +kernel)]; exact ⟨rfl, rfl⟩))
    (fun os started H enc _ => lifted os started H enc)

/-- The statement. -/
theorem proved : Rows.HandleBackSaid := over
#print axioms proved
end Go.Proofs.Ytpcckdkebbdbbaa.handleBack
