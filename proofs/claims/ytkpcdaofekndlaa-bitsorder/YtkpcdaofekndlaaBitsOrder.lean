/-
  Proved: for every uint64 a, b, size and more, the statement BitsOrder returns true, and its arguments read as before. No condition beyond those of the statement.
-/
import Derived.Test.YtkpcdaofekndlaaRows
import Derived.WalkKit
import Derived.ProofKit
import Derived.OpenShut
import Derived.Test.YtkpcdaofekndlaaAt
namespace Go.Proofs.Ytkpcdaofekndlaa.bitsOrder
open Go.ChangeShapes Go.WideShapes Go.ChangeAt Go.RowKit
set_option linter.unusedVariables false

theorem own : ownKnob Try.prog.godebug = none := by kernel_rfl

set_option maxRecDepth 100000 in
theorem leg_f_n_f_n (a b z m s v p1 p2 p3 : Nat) (ha : a < 18446744073709551616) (hb : b < 18446744073709551616) (hz : z < 18446744073709551616) (hm : m < 18446744073709551616) (hs : s < 18446744073709551616) (hv : v < 18446744073709551616)
    (S : Hid (M.addV a b = s)) (T : Hid (M.addV b a = s)) (B : Hid (M.addB a b = false)) (B' : Hid (M.addB b a = false)) (V : Hid (M.addV z m = v)) (K : Hid (M.addB z m = false))
    (P1 : Hid (M.pgs a = p1)) (P2 : Hid (M.pgs b = p2)) (P3 : Hid (M.pgs s = p3)) (h1 : p1 ≤ 4503599627370496) (h2 : p2 ≤ 4503599627370496) (h3 : p3 ≤ 4503599627370496) (w : World) :
    Calls Try.prog 8 #[.int .u64 a, .int .u64 b, .int .u64 z, .int .u64 m] w fun e w' => e = .returned (.bool true) ∧ Grown w w' := by
  have W : IntKind.u64.wrap ((p1 : Int) + p2) = ((p1 + p2 : Nat) : Int) := by rw [wrapU]; omega
  go_enter Try.func8, Try.ntmps8
  go_wp2_with fail
  refine (awake_any _).mono ?_
  rintro e w1 ⟨rfl, g1⟩
  have G1 := Lib.hid g1; clear g1
  go_wp2_with fail
  refine (add_at a b s false rfl rfl ha hb S.out B.out _).mono ?_
  rintro e w' ⟨rfl, rfl⟩
  go_wp2_with fail
  refine (add_at b a s false rfl rfl hb ha T.out B'.out _).mono ?_
  rintro e w' ⟨rfl, rfl⟩
  go_wp2_with fail
  refine (add_at z m v false rfl rfl hz hm V.out K.out _).mono ?_
  rintro e w' ⟨rfl, rfl⟩
  go_wp2_with fail
  refine (pages_at a p1 rfl ha P1.out _).mono ?_
  rintro e w' ⟨rfl, rfl⟩
  go_wp2_with fail
  refine (pages_at b p2 rfl hb P2.out _).mono ?_
  rintro e w' ⟨rfl, rfl⟩
  go_wp2
  go_ret
  exact ⟨retB (by simp), G1.out⟩

set_option maxRecDepth 100000 in
theorem leg_f_n_t_f (a b z m s v p1 p2 p3 : Nat) (ha : a < 18446744073709551616) (hb : b < 18446744073709551616) (hz : z < 18446744073709551616) (hm : m < 18446744073709551616) (hs : s < 18446744073709551616) (hv : v < 18446744073709551616)
    (S : Hid (M.addV a b = s)) (T : Hid (M.addV b a = s)) (B : Hid (M.addB a b = false)) (B' : Hid (M.addB b a = false)) (V : Hid (M.addV z m = v)) (K : Hid (M.addB z m = true)) (I : Hid (M.inB a b z = false))
    (P1 : Hid (M.pgs a = p1)) (P2 : Hid (M.pgs b = p2)) (P3 : Hid (M.pgs s = p3)) (h1 : p1 ≤ 4503599627370496) (h2 : p2 ≤ 4503599627370496) (h3 : p3 ≤ 4503599627370496) (w : World) :
    Calls Try.prog 8 #[.int .u64 a, .int .u64 b, .int .u64 z, .int .u64 m] w fun e w' => e = .returned (.bool true) ∧ Grown w w' := by
  have W : IntKind.u64.wrap ((p1 : Int) + p2) = ((p1 + p2 : Nat) : Int) := by rw [wrapU]; omega
  go_enter Try.func8, Try.ntmps8
  go_wp2_with fail
  refine (awake_any _).mono ?_
  rintro e w1 ⟨rfl, g1⟩
  have G1 := Lib.hid g1; clear g1
  go_wp2_with fail
  refine (add_at a b s false rfl rfl ha hb S.out B.out _).mono ?_
  rintro e w' ⟨rfl, rfl⟩
  go_wp2_with fail
  refine (add_at b a s false rfl rfl hb ha T.out B'.out _).mono ?_
  rintro e w' ⟨rfl, rfl⟩
  go_wp2_with fail
  refine (add_at z m v true rfl rfl hz hm V.out K.out _).mono ?_
  rintro e w' ⟨rfl, rfl⟩
  go_wp2_with fail
  refine (in_at a b z false rfl rfl rfl ha hb I.out _).mono ?_
  rintro e w' ⟨rfl, rfl⟩
  go_wp2_with fail
  refine (pages_at a p1 rfl ha P1.out _).mono ?_
  rintro e w' ⟨rfl, rfl⟩
  go_wp2_with fail
  refine (pages_at b p2 rfl hb P2.out _).mono ?_
  rintro e w' ⟨rfl, rfl⟩
  go_wp2
  go_ret
  exact ⟨retB (by simp), G1.out⟩

set_option maxRecDepth 100000 in
theorem leg_t_eq_f_n (a b z m s v p1 p2 p3 : Nat) (ha : a < 18446744073709551616) (hb : b < 18446744073709551616) (hz : z < 18446744073709551616) (hm : m < 18446744073709551616) (hs : s < 18446744073709551616) (hv : v < 18446744073709551616)
    (S : Hid (M.addV a b = s)) (T : Hid (M.addV b a = s)) (B : Hid (M.addB a b = true)) (B' : Hid (M.addB b a = true)) (V : Hid (M.addV z m = v)) (K : Hid (M.addB z m = false))
    (P1 : Hid (M.pgs a = p1)) (P2 : Hid (M.pgs b = p2)) (P3 : Hid (M.pgs s = p3)) (h1 : p1 ≤ 4503599627370496) (h2 : p2 ≤ 4503599627370496) (h3 : p3 ≤ 4503599627370496) (he : p1 + p2 = p3) (w : World) :
    Calls Try.prog 8 #[.int .u64 a, .int .u64 b, .int .u64 z, .int .u64 m] w fun e w' => e = .returned (.bool true) ∧ Grown w w' := by
  have W : IntKind.u64.wrap ((p1 : Int) + p2) = ((p1 + p2 : Nat) : Int) := by rw [wrapU]; omega
  rw [he] at W
  clear he
  go_enter Try.func8, Try.ntmps8
  go_wp2_with fail
  refine (awake_any _).mono ?_
  rintro e w1 ⟨rfl, g1⟩
  have G1 := Lib.hid g1; clear g1
  go_wp2_with fail
  refine (add_at a b s true rfl rfl ha hb S.out B.out _).mono ?_
  rintro e w' ⟨rfl, rfl⟩
  go_wp2_with fail
  refine (add_at b a s true rfl rfl hb ha T.out B'.out _).mono ?_
  rintro e w' ⟨rfl, rfl⟩
  go_wp2_with fail
  refine (add_at z m v false rfl rfl hz hm V.out K.out _).mono ?_
  rintro e w' ⟨rfl, rfl⟩
  go_wp2_with fail
  refine (pages_at a p1 rfl ha P1.out _).mono ?_
  rintro e w' ⟨rfl, rfl⟩
  go_wp2_with fail
  refine (pages_at b p2 rfl hb P2.out _).mono ?_
  rintro e w' ⟨rfl, rfl⟩
  go_wp2_with fail
  refine (pages_at s p3 rfl hs P3.out _).mono ?_
  rintro e w' ⟨rfl, rfl⟩
  go_wp2
  go_ret
  exact ⟨retB (by simp), G1.out⟩

set_option maxRecDepth 100000 in
theorem leg_t_eq_t_f (a b z m s v p1 p2 p3 : Nat) (ha : a < 18446744073709551616) (hb : b < 18446744073709551616) (hz : z < 18446744073709551616) (hm : m < 18446744073709551616) (hs : s < 18446744073709551616) (hv : v < 18446744073709551616)
    (S : Hid (M.addV a b = s)) (T : Hid (M.addV b a = s)) (B : Hid (M.addB a b = true)) (B' : Hid (M.addB b a = true)) (V : Hid (M.addV z m = v)) (K : Hid (M.addB z m = true)) (I : Hid (M.inB a b z = false))
    (P1 : Hid (M.pgs a = p1)) (P2 : Hid (M.pgs b = p2)) (P3 : Hid (M.pgs s = p3)) (h1 : p1 ≤ 4503599627370496) (h2 : p2 ≤ 4503599627370496) (h3 : p3 ≤ 4503599627370496) (he : p1 + p2 = p3) (w : World) :
    Calls Try.prog 8 #[.int .u64 a, .int .u64 b, .int .u64 z, .int .u64 m] w fun e w' => e = .returned (.bool true) ∧ Grown w w' := by
  have W : IntKind.u64.wrap ((p1 : Int) + p2) = ((p1 + p2 : Nat) : Int) := by rw [wrapU]; omega
  rw [he] at W
  clear he
  go_enter Try.func8, Try.ntmps8
  go_wp2_with fail
  refine (awake_any _).mono ?_
  rintro e w1 ⟨rfl, g1⟩
  have G1 := Lib.hid g1; clear g1
  go_wp2_with fail
  refine (add_at a b s true rfl rfl ha hb S.out B.out _).mono ?_
  rintro e w' ⟨rfl, rfl⟩
  go_wp2_with fail
  refine (add_at b a s true rfl rfl hb ha T.out B'.out _).mono ?_
  rintro e w' ⟨rfl, rfl⟩
  go_wp2_with fail
  refine (add_at z m v true rfl rfl hz hm V.out K.out _).mono ?_
  rintro e w' ⟨rfl, rfl⟩
  go_wp2_with fail
  refine (in_at a b z false rfl rfl rfl ha hb I.out _).mono ?_
  rintro e w' ⟨rfl, rfl⟩
  go_wp2_with fail
  refine (pages_at a p1 rfl ha P1.out _).mono ?_
  rintro e w' ⟨rfl, rfl⟩
  go_wp2_with fail
  refine (pages_at b p2 rfl hb P2.out _).mono ?_
  rintro e w' ⟨rfl, rfl⟩
  go_wp2_with fail
  refine (pages_at s p3 rfl hs P3.out _).mono ?_
  rintro e w' ⟨rfl, rfl⟩
  go_wp2
  go_ret
  exact ⟨retB (by simp), G1.out⟩

set_option maxRecDepth 100000 in
theorem leg_t_eq_t_t (a b z m s v p1 p2 p3 : Nat) (ha : a < 18446744073709551616) (hb : b < 18446744073709551616) (hz : z < 18446744073709551616) (hm : m < 18446744073709551616) (hs : s < 18446744073709551616) (hv : v < 18446744073709551616)
    (S : Hid (M.addV a b = s)) (T : Hid (M.addV b a = s)) (B : Hid (M.addB a b = true)) (B' : Hid (M.addB b a = true)) (V : Hid (M.addV z m = v)) (K : Hid (M.addB z m = true)) (I : Hid (M.inB a b z = true)) (J : Hid (M.inB a b v = true))
    (P1 : Hid (M.pgs a = p1)) (P2 : Hid (M.pgs b = p2)) (P3 : Hid (M.pgs s = p3)) (h1 : p1 ≤ 4503599627370496) (h2 : p2 ≤ 4503599627370496) (h3 : p3 ≤ 4503599627370496) (he : p1 + p2 = p3) (w : World) :
    Calls Try.prog 8 #[.int .u64 a, .int .u64 b, .int .u64 z, .int .u64 m] w fun e w' => e = .returned (.bool true) ∧ Grown w w' := by
  have W : IntKind.u64.wrap ((p1 : Int) + p2) = ((p1 + p2 : Nat) : Int) := by rw [wrapU]; omega
  rw [he] at W
  clear he
  go_enter Try.func8, Try.ntmps8
  go_wp2_with fail
  refine (awake_any _).mono ?_
  rintro e w1 ⟨rfl, g1⟩
  have G1 := Lib.hid g1; clear g1
  go_wp2_with fail
  refine (add_at a b s true rfl rfl ha hb S.out B.out _).mono ?_
  rintro e w' ⟨rfl, rfl⟩
  go_wp2_with fail
  refine (add_at b a s true rfl rfl hb ha T.out B'.out _).mono ?_
  rintro e w' ⟨rfl, rfl⟩
  go_wp2_with fail
  refine (add_at z m v true rfl rfl hz hm V.out K.out _).mono ?_
  rintro e w' ⟨rfl, rfl⟩
  go_wp2_with fail
  refine (in_at a b z true rfl rfl rfl ha hb I.out _).mono ?_
  rintro e w' ⟨rfl, rfl⟩
  go_wp2_with fail
  refine (in_at a b v true rfl rfl rfl ha hb J.out _).mono ?_
  rintro e w' ⟨rfl, rfl⟩
  go_wp2_with fail
  refine (pages_at a p1 rfl ha P1.out _).mono ?_
  rintro e w' ⟨rfl, rfl⟩
  go_wp2_with fail
  refine (pages_at b p2 rfl hb P2.out _).mono ?_
  rintro e w' ⟨rfl, rfl⟩
  go_wp2_with fail
  refine (pages_at s p3 rfl hs P3.out _).mono ?_
  rintro e w' ⟨rfl, rfl⟩
  go_wp2
  go_ret
  exact ⟨retB (by simp), G1.out⟩

set_option maxRecDepth 100000 in
theorem leg_t_more_f_n (a b z m s v p1 p2 p3 : Nat) (ha : a < 18446744073709551616) (hb : b < 18446744073709551616) (hz : z < 18446744073709551616) (hm : m < 18446744073709551616) (hs : s < 18446744073709551616) (hv : v < 18446744073709551616)
    (S : Hid (M.addV a b = s)) (T : Hid (M.addV b a = s)) (B : Hid (M.addB a b = true)) (B' : Hid (M.addB b a = true)) (V : Hid (M.addV z m = v)) (K : Hid (M.addB z m = false))
    (P1 : Hid (M.pgs a = p1)) (P2 : Hid (M.pgs b = p2)) (P3 : Hid (M.pgs s = p3)) (h1 : p1 ≤ 4503599627370496) (h2 : p2 ≤ 4503599627370496) (h3 : p3 ≤ 4503599627370496) (he : p1 + p2 = p3 + 1) (w : World) :
    Calls Try.prog 8 #[.int .u64 a, .int .u64 b, .int .u64 z, .int .u64 m] w fun e w' => e = .returned (.bool true) ∧ Grown w w' := by
  have W : IntKind.u64.wrap ((p1 : Int) + p2) = ((p1 + p2 : Nat) : Int) := by rw [wrapU]; omega
  have W2 : IntKind.u64.wrap ((p3 : Int) + 1) = (p3 : Int) + 1 := by rw [wrapU]; omega
  have W3 : ((p3 : Int) + 1 == (p3 : Int)) = false := by simp; omega
  rw [he, show ((p3 + 1 : Nat) : Int) = (p3 : Int) + 1 by omega] at W
  clear he
  go_enter Try.func8, Try.ntmps8
  go_wp2_with fail
  refine (awake_any _).mono ?_
  rintro e w1 ⟨rfl, g1⟩
  have G1 := Lib.hid g1; clear g1
  go_wp2_with fail
  refine (add_at a b s true rfl rfl ha hb S.out B.out _).mono ?_
  rintro e w' ⟨rfl, rfl⟩
  go_wp2_with fail
  refine (add_at b a s true rfl rfl hb ha T.out B'.out _).mono ?_
  rintro e w' ⟨rfl, rfl⟩
  go_wp2_with fail
  refine (add_at z m v false rfl rfl hz hm V.out K.out _).mono ?_
  rintro e w' ⟨rfl, rfl⟩
  go_wp2_with fail
  refine (pages_at a p1 rfl ha P1.out _).mono ?_
  rintro e w' ⟨rfl, rfl⟩
  go_wp2_with fail
  refine (pages_at b p2 rfl hb P2.out _).mono ?_
  rintro e w' ⟨rfl, rfl⟩
  go_wp2_with fail
  refine (pages_at s p3 rfl hs P3.out _).mono ?_
  rintro e w' ⟨rfl, rfl⟩
  go_wp2_with fail
  refine (pages_at s p3 rfl hs P3.out _).mono ?_
  rintro e w' ⟨rfl, rfl⟩
  go_wp2
  go_ret
  exact ⟨retB (by simp), G1.out⟩

set_option maxRecDepth 100000 in
theorem leg_t_more_t_f (a b z m s v p1 p2 p3 : Nat) (ha : a < 18446744073709551616) (hb : b < 18446744073709551616) (hz : z < 18446744073709551616) (hm : m < 18446744073709551616) (hs : s < 18446744073709551616) (hv : v < 18446744073709551616)
    (S : Hid (M.addV a b = s)) (T : Hid (M.addV b a = s)) (B : Hid (M.addB a b = true)) (B' : Hid (M.addB b a = true)) (V : Hid (M.addV z m = v)) (K : Hid (M.addB z m = true)) (I : Hid (M.inB a b z = false))
    (P1 : Hid (M.pgs a = p1)) (P2 : Hid (M.pgs b = p2)) (P3 : Hid (M.pgs s = p3)) (h1 : p1 ≤ 4503599627370496) (h2 : p2 ≤ 4503599627370496) (h3 : p3 ≤ 4503599627370496) (he : p1 + p2 = p3 + 1) (w : World) :
    Calls Try.prog 8 #[.int .u64 a, .int .u64 b, .int .u64 z, .int .u64 m] w fun e w' => e = .returned (.bool true) ∧ Grown w w' := by
  have W : IntKind.u64.wrap ((p1 : Int) + p2) = ((p1 + p2 : Nat) : Int) := by rw [wrapU]; omega
  have W2 : IntKind.u64.wrap ((p3 : Int) + 1) = (p3 : Int) + 1 := by rw [wrapU]; omega
  have W3 : ((p3 : Int) + 1 == (p3 : Int)) = false := by simp; omega
  rw [he, show ((p3 + 1 : Nat) : Int) = (p3 : Int) + 1 by omega] at W
  clear he
  go_enter Try.func8, Try.ntmps8
  go_wp2_with fail
  refine (awake_any _).mono ?_
  rintro e w1 ⟨rfl, g1⟩
  have G1 := Lib.hid g1; clear g1
  go_wp2_with fail
  refine (add_at a b s true rfl rfl ha hb S.out B.out _).mono ?_
  rintro e w' ⟨rfl, rfl⟩
  go_wp2_with fail
  refine (add_at b a s true rfl rfl hb ha T.out B'.out _).mono ?_
  rintro e w' ⟨rfl, rfl⟩
  go_wp2_with fail
  refine (add_at z m v true rfl rfl hz hm V.out K.out _).mono ?_
  rintro e w' ⟨rfl, rfl⟩
  go_wp2_with fail
  refine (in_at a b z false rfl rfl rfl ha hb I.out _).mono ?_
  rintro e w' ⟨rfl, rfl⟩
  go_wp2_with fail
  refine (pages_at a p1 rfl ha P1.out _).mono ?_
  rintro e w' ⟨rfl, rfl⟩
  go_wp2_with fail
  refine (pages_at b p2 rfl hb P2.out _).mono ?_
  rintro e w' ⟨rfl, rfl⟩
  go_wp2_with fail
  refine (pages_at s p3 rfl hs P3.out _).mono ?_
  rintro e w' ⟨rfl, rfl⟩
  go_wp2_with fail
  refine (pages_at s p3 rfl hs P3.out _).mono ?_
  rintro e w' ⟨rfl, rfl⟩
  go_wp2
  go_ret
  exact ⟨retB (by simp), G1.out⟩

set_option maxRecDepth 100000 in
theorem leg_t_more_t_t (a b z m s v p1 p2 p3 : Nat) (ha : a < 18446744073709551616) (hb : b < 18446744073709551616) (hz : z < 18446744073709551616) (hm : m < 18446744073709551616) (hs : s < 18446744073709551616) (hv : v < 18446744073709551616)
    (S : Hid (M.addV a b = s)) (T : Hid (M.addV b a = s)) (B : Hid (M.addB a b = true)) (B' : Hid (M.addB b a = true)) (V : Hid (M.addV z m = v)) (K : Hid (M.addB z m = true)) (I : Hid (M.inB a b z = true)) (J : Hid (M.inB a b v = true))
    (P1 : Hid (M.pgs a = p1)) (P2 : Hid (M.pgs b = p2)) (P3 : Hid (M.pgs s = p3)) (h1 : p1 ≤ 4503599627370496) (h2 : p2 ≤ 4503599627370496) (h3 : p3 ≤ 4503599627370496) (he : p1 + p2 = p3 + 1) (w : World) :
    Calls Try.prog 8 #[.int .u64 a, .int .u64 b, .int .u64 z, .int .u64 m] w fun e w' => e = .returned (.bool true) ∧ Grown w w' := by
  have W : IntKind.u64.wrap ((p1 : Int) + p2) = ((p1 + p2 : Nat) : Int) := by rw [wrapU]; omega
  have W2 : IntKind.u64.wrap ((p3 : Int) + 1) = (p3 : Int) + 1 := by rw [wrapU]; omega
  have W3 : ((p3 : Int) + 1 == (p3 : Int)) = false := by simp; omega
  rw [he, show ((p3 + 1 : Nat) : Int) = (p3 : Int) + 1 by omega] at W
  clear he
  go_enter Try.func8, Try.ntmps8
  go_wp2_with fail
  refine (awake_any _).mono ?_
  rintro e w1 ⟨rfl, g1⟩
  have G1 := Lib.hid g1; clear g1
  go_wp2_with fail
  refine (add_at a b s true rfl rfl ha hb S.out B.out _).mono ?_
  rintro e w' ⟨rfl, rfl⟩
  go_wp2_with fail
  refine (add_at b a s true rfl rfl hb ha T.out B'.out _).mono ?_
  rintro e w' ⟨rfl, rfl⟩
  go_wp2_with fail
  refine (add_at z m v true rfl rfl hz hm V.out K.out _).mono ?_
  rintro e w' ⟨rfl, rfl⟩
  go_wp2_with fail
  refine (in_at a b z true rfl rfl rfl ha hb I.out _).mono ?_
  rintro e w' ⟨rfl, rfl⟩
  go_wp2_with fail
  refine (in_at a b v true rfl rfl rfl ha hb J.out _).mono ?_
  rintro e w' ⟨rfl, rfl⟩
  go_wp2_with fail
  refine (pages_at a p1 rfl ha P1.out _).mono ?_
  rintro e w' ⟨rfl, rfl⟩
  go_wp2_with fail
  refine (pages_at b p2 rfl hb P2.out _).mono ?_
  rintro e w' ⟨rfl, rfl⟩
  go_wp2_with fail
  refine (pages_at s p3 rfl hs P3.out _).mono ?_
  rintro e w' ⟨rfl, rfl⟩
  go_wp2_with fail
  refine (pages_at s p3 rfl hs P3.out _).mono ?_
  rintro e w' ⟨rfl, rfl⟩
  go_wp2
  go_ret
  exact ⟨retB (by simp), G1.out⟩

/-! The walk. -/
theorem walk (a0 : Int) (a1 : Int) (a2 : Int) (a3 : Int) (w0 : (Lit.int .u64 a0).wf = true) (w1 : (Lit.int .u64 a1).wf = true) (w2 : (Lit.int .u64 a2).wf = true) (w3 : (Lit.int .u64 a3).wf = true) (w : World) :
    Calls Try.prog 8 #[.int .u64 a0, .int .u64 a1, .int .u64 a2, .int .u64 a3] w fun e w' => e = .returned (.bool true) ∧ Grown w w' := by
  obtain ⟨a, ha, rfl⟩ := u64_nat w0
  obtain ⟨b, hb, rfl⟩ := u64_nat w1
  obtain ⟨z, hz, rfl⟩ := u64_nat w2
  obtain ⟨m, hm, rfl⟩ := u64_nat w3
  have hs := M.addV_lt a b
  have hv := M.addV_lt z m
  have p1 := M.pgs_le a ha
  have p2 := M.pgs_le b hb
  have p3 := M.pgs_le _ hs
  have S := Lib.hid (rfl : M.addV a b = M.addV a b)
  have T := Lib.hid (M.addV_comm b a)
  have V := Lib.hid (rfl : M.addV z m = M.addV z m)
  have P1 := Lib.hid (rfl : M.pgs a = M.pgs a)
  have P2 := Lib.hid (rfl : M.pgs b = M.pgs b)
  have P3 := Lib.hid (rfl : M.pgs (M.addV a b) = M.pgs (M.addV a b))
  have c := M.addB_comm b a
  cases hq : M.addB a b with
  | false =>
    rw [hq] at c
    cases hk : M.addB z m with
    | false => exact leg_f_n_f_n a b z m _ _ _ _ _ ha hb hz hm hs hv S T (Lib.hid hq) (Lib.hid c) V (Lib.hid hk) P1 P2 P3 p1 p2 p3 w
    | true =>
      have i : M.inB a b z = false := by unfold M.inB; rw [hq]; rfl
      exact leg_f_n_t_f a b z m _ _ _ _ _ ha hb hz hm hs hv S T (Lib.hid hq) (Lib.hid c) V (Lib.hid hk) (Lib.hid i) P1 P2 P3 p1 p2 p3 w
  | true =>
    rw [hq] at c
    have e := M.pgs_add a b
    rw [← M.addV_eq a b hq] at e
    cases hk : M.addB z m with
    | false =>
      rcases e with e | e
      · exact leg_t_eq_f_n a b z m _ _ _ _ _ ha hb hz hm hs hv S T (Lib.hid hq) (Lib.hid c) V (Lib.hid hk) P1 P2 P3 p1 p2 p3 e w
      · exact leg_t_more_f_n a b z m _ _ _ _ _ ha hb hz hm hs hv S T (Lib.hid hq) (Lib.hid c) V (Lib.hid hk) P1 P2 P3 p1 p2 p3 e w
    | true =>
      cases hi : M.inB a b z with
      | false =>
        rcases e with e | e
        · exact leg_t_eq_t_f a b z m _ _ _ _ _ ha hb hz hm hs hv S T (Lib.hid hq) (Lib.hid c) V (Lib.hid hk) (Lib.hid hi) P1 P2 P3 p1 p2 p3 e w
        · exact leg_t_more_t_f a b z m _ _ _ _ _ ha hb hz hm hs hv S T (Lib.hid hq) (Lib.hid c) V (Lib.hid hk) (Lib.hid hi) P1 P2 P3 p1 p2 p3 e w
      | true =>
        have j := M.inB_more a b z (M.addV z m) hi (by rw [M.addV_eq z m hk]; omega)
        rcases e with e | e
        · exact leg_t_eq_t_t a b z m _ _ _ _ _ ha hb hz hm hs hv S T (Lib.hid hq) (Lib.hid c) V (Lib.hid hk) (Lib.hid hi) (Lib.hid j) P1 P2 P3 p1 p2 p3 e w
        · exact leg_t_more_t_t a b z m _ _ _ _ _ ha hb hz hm hs hv S T (Lib.hid hq) (Lib.hid c) V (Lib.hid hk) (Lib.hid hi) (Lib.hid j) P1 P2 P3 p1 p2 p3 e w

/-! The row's step. -/
set_option maxRecDepth 100000 in
theorem lifted (os : Os) (started : os.Started) (H : Type) (enc : TypeId × Value → H) :
    ReturnsInHanded {} Try.checked os 8 .any (Rows.bitsOrderSpec.pre6 enc Try.prog Try.f8 Rows.bitsOrderRow.domain false) (Rows.bitsOrderSpec.post enc Try.prog Try.f8 false true false false) := by
  refine returnsInHanded_of_change (C := Try.checked) own started (by kernel_rfl) Try.func8
    (ChangeSpec.witness6 (enc := enc) (C := Try.checked) false ⟨#[], #[.int .u64 0, .int .u64 0, .int .u64 0, .int .u64 0], []⟩ 8 (by kernel_rfl) (by kernel_rfl) (by kernel_rfl) (by kernel_rfl)) ?_
  intro W base args ds gs before hval0 hW hcnd _
  have hval : ∀ (j : Nat) t v, Try.f8.params[j]? = some t → args[j]? = some v → Value.okWide Try.prog W .any base t v := hval0
  have hW' := hW
  obtain ⟨p, q, hA0, hV, rfl, hfz, hnd⟩ := hW
  have hA : DataW.TrodAll enc Try.prog W 0 (fun _ => true) true Try.f8.params.toList args.toList ds p := hA0
  rw [Try.params8] at hA hval
  obtain ⟨v0, vs0, d0, ds0, p0, q0, hargs, rfl, rfl, h0, r0⟩ := trodAll_cons hA
  obtain ⟨v1, vs1, d1, ds1, p1, q1, rfl, rfl, rfl, h1, r1⟩ := trodAll_cons r0
  obtain ⟨v2, vs2, d2, ds2, p2, q2, rfl, rfl, rfl, h2, r2⟩ := trodAll_cons r1
  obtain ⟨v3, vs3, d3, ds3, p3, q3, rfl, rfl, rfl, h3, r3⟩ := trodAll_cons r2
  obtain ⟨rfl, rfl, rfl⟩ := trodAll_nil r3
  obtain rfl : args = #[v0, v1, v2, v3] := by cases args; simp_all
  obtain ⟨rfl, rfl⟩ := trodVars_none hV
  obtain ⟨a0, rfl, rfl, rfl, w0⟩ := open_int Try.underlying22 (hval 0 22 v0 rfl rfl) h0
  obtain ⟨a1, rfl, rfl, rfl, w1⟩ := open_int Try.underlying22 (hval 1 22 v1 rfl rfl) h1
  obtain ⟨a2, rfl, rfl, rfl, w2⟩ := open_int Try.underlying22 (hval 2 22 v2 rfl rfl) h2
  obtain ⟨a3, rfl, rfl, rfl, w3⟩ := open_int Try.underlying22 (hval 3 22 v3 rfl rfl) h3
  clear hA0 hval0
  simp only [List.append_nil] at hW'
  refine (walk a0 a1 a2 a3 w0 w1 w2 w3 W).mono fun e W' ⟨he, hg⟩ => ?_
  subst he
  exact ⟨_, rfl, post_of_same (pa := []) (pv := []) hW' (fun _ _ _ => (trodAll_cons_mk (shut_bool Try.underlying4 _) trodAll_mk0)) (fun sp _ => (trodAll_cons_mk (shut_int Try.underlying22 w0) (trodAll_cons_mk (shut_int Try.underlying22 w1) (trodAll_cons_mk (shut_int Try.underlying22 w2) (trodAll_cons_mk (shut_int Try.underlying22 w3) trodAll_mk0))))) (fun _ _ => rfl) rfl
    (hg.frame _) hg.2.1 (ok_one (by kernel_rfl) rfl (okWide_bool_mk Try.underlying4 _))⟩

theorem over : Rows.bitsOrderRow.holds Try.pinned (OpenSpec.ofChange Rows.bitsOrderSpec) :=
  OpenClaim.holds_of_wide 8 Try.f8 rfl rfl rfl rfl rfl rfl rfl ⟨rfl, rfl, rfl, rfl, rfl⟩ rfl rfl rfl rfl rfl (by kernel_rfl) Try.func8 (by kernel_rfl)
    (of_decide_eq_true (by kernel_rfl)) (by unfold Func.isWrapper; first | (rw [if_pos (by decide +kernel)]; kernel_rfl) | (rw [if_neg (by decide +kernel)]; exact ⟨rfl, rfl⟩))
    (fun os started H enc _ => lifted os started H enc)

/-- The statement. -/
theorem proved : Rows.BitsOrderSaid :=
  over
#print axioms proved
end Go.Proofs.Ytkpcdaofekndlaa.bitsOrder
