/-
  BumpTwice: without alignment bytes in two parts lie as those at once do; what fits by a great alignment fits by a lesser one, at no greater place; for every input the law returns true, and the arguments read behind the call as they read before. No condition.
-/
import Derived.Test.YtmmcdnoedilefaaRows
import Derived.WalkKit
import Derived.ProofKit
import Derived.OpenShut
import Derived.ShutString
import Derived.ChangeOld
import Derived.Below
import Derived.Test.YtmmcdnoedilefaaA11
import Derived.Test.YtmmcdnoedilefaaL11
namespace Go.Proofs.Ytmmcdnoedilefaa.bumpTwice
open Go.ChangeShapes Go.WideShapes Go.ChangeAt Go.RowKit
set_option linter.unusedVariables false

theorem own : ownKnob Try.prog.godebug = none := by kernel_rfl

theorem u16_nat {a : Int} (h : (Lit.int .u16 a).wf = true) : ∃ n : Nat, n < 65536 ∧ a = n := by
  have := bounds_u16 h
  exact ⟨a.toNat, by omega, by omega⟩
theorem shifted_le (k j c d : Nat) (ec : IntKind.u64.wrap (2 ^ (k % 13)) = c) (ed : IntKind.u64.wrap (2 ^ (j % 13)) = d) (h : k % 13 ≤ j % 13) : c ≤ d := by
  have h1 : 2 ^ (k % 13) ≤ 2 ^ (j % 13) := Nat.pow_le_pow_right (by decide) h
  have h2 : 2 ^ (j % 13) ≤ 2 ^ 12 := Nat.pow_le_pow_right (by decide) (by omega)
  rw [wrapU, show ((2 : Int) ^ (k % 13)) = ((2 ^ (k % 13) : Nat) : Int) by simp] at ec
  rw [wrapU, show ((2 : Int) ^ (j % 13)) = ((2 ^ (j % 13) : Nat) : Int) by simp] at ed
  generalize 2 ^ (k % 13) = p at *
  generalize 2 ^ (j % 13) = q at *
  omega
set_option maxRecDepth 20000
set_option maxHeartbeats 4000000 in
theorem core_i0y (t l a b k j x y z o c d : Nat) (ht : t < 4294967296) (hl : l < 65536) (ha : a < 65536) (hb : b < 65536) (hk : k < 256) (hj : j < 256) (hx : Hid (a + 1 = x)) (hy : Hid (b + 1 = y)) (hz : Hid (t + l = z)) (ho : Hid (o = 0))
    (ec : IntKind.u64.wrap (2 ^ (k % 13)) = c) (ed : IntKind.u64.wrap (2 ^ (j % 13)) = d) (lc : c ≤ 4096) (ld : d ≤ 4096) (hm : k % 13 < j % 13)
    (z1 z2 : Nat) (hz1 : z1 < 18446744073709551616)
    (S4 A4 E4 P4 S5 A5 E5 P5 : Nat) (hS : S5 ≤ S4)
    (f1S : Hid (M.fitS t z x 1 = t)) (f1A : Hid (M.fitA t z x 1 = z1)) (f1E : Hid (M.fitE t z x 1 = z)) (f1P : Hid (M.fitP t z x 1 = 0)) (f1B : Hid (M.fitB t z x 1 = true))
    (f2S : Hid (M.fitS z1 z y 1 = z1)) (f2A : Hid (M.fitA z1 z y 1 = z2)) (f2E : Hid (M.fitE z1 z y 1 = z)) (f2P : Hid (M.fitP z1 z y 1 = 0)) (f2B : Hid (M.fitB z1 z y 1 = true))
    (f3S : Hid (M.fitS t z (x + y) 1 = t)) (f3A : Hid (M.fitA t z (x + y) 1 = z2)) (f3E : Hid (M.fitE t z (x + y) 1 = z)) (f3P : Hid (M.fitP t z (x + y) 1 = 0)) (f3B : Hid (M.fitB t z (x + y) 1 = true))
    (f4S : Hid (M.fitS t z x d = S4)) (f4A : Hid (M.fitA t z x d = A4)) (f4E : Hid (M.fitE t z x d = E4)) (f4P : Hid (M.fitP t z x d = P4)) (f4B : Hid (M.fitB t z x d = true))
    (f5S : Hid (M.fitS t z x c = S5)) (f5A : Hid (M.fitA t z x c = A5)) (f5E : Hid (M.fitE t z x c = E5)) (f5P : Hid (M.fitP t z x c = P5)) (f5B : Hid (M.fitB t z x c = true))
    (w : World) : Calls Try.prog 7 #[.int .u32 t, .int .u16 l, .int .u16 a, .int .u16 b, .int .u8 k, .int .u8 j] w fun e w' => e = .returned (.bool true) ∧ Below w.heap.size w w' := by
  have zs : decide ((S5 : Int) ≤ S4) = true := decide_eq_true (by omega)
  go_enter Try.func7, Try.ntmps7
  go_wp2_with fail
  refine (awake_any _).mono ?_
  rintro _ w1 ⟨rfl, b0⟩
  have Y0 := Box2.new w1 25 (.int .u64 t) (.int .u64 ((t : Int) + l))
  have B0 := below_call b0 (below_new2 w1 (.cells #[.int .u64 t, .int .u64 ((t : Int) + l)] 25))
  clear b0
  go_upto_region 5 with fail
  generalize w1.alloc (.cells #[.int .u64 t, .int .u64 ((t : Int) + l)] 25) = w2 at *
  generalize w1.heap.size = g at *
  have X0 := Y0
  clear Y0
  have c0 := X0.c0
  have c1 := X0.c1
  go_wp2_with fail
  refine (fit_at t z x 1 t z1 z 0 true rfl (by have := hz.out; omega) (by have := hx.out; omega) rfl (by have := hx.out; have := hy.out; have := hz.out; have := ho.out; omega) (by have := hx.out; have := hy.out; have := hz.out; have := ho.out; omega) (by have := hx.out; have := hy.out; have := hz.out; have := ho.out; omega) (by have := hx.out; have := hy.out; have := hz.out; have := ho.out; omega) f1S.out f1A.out f1E.out f1P.out f1B.out _).mono ?_
  rintro _ w3 ⟨rfl, b1⟩
  have X1 := (X0.below b1).below (below_new2 w3 (.cells #[.int .u64 (z1 : Int), .int .u64 (z : Int)] 25))
  have Y1 := Box2.new w3 25 (.int .u64 (z1 : Int)) (.int .u64 (z : Int))
  have B1 := below_call (below_call B0 b1) (below_new2 w3 (.cells #[.int .u64 (z1 : Int), .int .u64 (z : Int)] 25))
  clear b1
  go_upto_region 8 with fail
  generalize w3.alloc (.cells #[.int .u64 (z1 : Int), .int .u64 (z : Int)] 25) = w4 at *
  generalize w3.heap.size = g1 at *
  clear X0 c0 c1 B0
  have c0 := X1.c0
  have c1 := X1.c1
  have d0 := Y1.c0
  have d1 := Y1.c1
  go_wp2_with fail
  refine (fit_at z1 z y 1 z1 z2 z 0 true rfl rfl (by have := hy.out; omega) rfl (by have := hx.out; have := hy.out; have := hz.out; have := ho.out; omega) (by have := hx.out; have := hy.out; have := hz.out; have := ho.out; omega) (by have := hx.out; have := hy.out; have := hz.out; have := ho.out; omega) (by have := hx.out; have := hy.out; have := hz.out; have := ho.out; omega) f2S.out f2A.out f2E.out f2P.out f2B.out _).mono ?_
  rintro _ w5 ⟨rfl, b2⟩
  have X2 := (X1.below b2).below (below_new2 w5 (.cells #[.int .u64 (z2 : Int), .int .u64 (z : Int)] 25))
  have Y2 := Box2.new w5 25 (.int .u64 (z2 : Int)) (.int .u64 (z : Int))
  have B2 := below_call (below_call B1 b2) (below_new2 w5 (.cells #[.int .u64 (z2 : Int), .int .u64 (z : Int)] 25))
  clear b2
  go_upto_region 9 with fail
  generalize w5.alloc (.cells #[.int .u64 (z2 : Int), .int .u64 (z : Int)] 25) = w6 at *
  generalize w5.heap.size = g2 at *
  clear X1 Y1 c0 c1 d0 d1 B1
  have c0 := X2.c0
  have c1 := X2.c1
  go_wp2_with fail
  refine (fit_at t z (x + y) 1 t z2 z 0 true rfl (by have := hz.out; omega) (by have := hx.out; have := hy.out; have := hz.out; have := ho.out; omega) rfl (by have := hx.out; have := hy.out; have := hz.out; have := ho.out; omega) (by have := hx.out; have := hy.out; have := hz.out; have := ho.out; omega) (by have := hx.out; have := hy.out; have := hz.out; have := ho.out; omega) (by have := hx.out; have := hy.out; have := hz.out; have := ho.out; omega) f3S.out f3A.out f3E.out f3P.out f3B.out _).mono ?_
  rintro _ w7 ⟨rfl, b3⟩
  have X3 := (X2.below b3).below (below_new2 w7 (.cells #[.int .u64 (z2 : Int), .int .u64 (z : Int)] 25))
  have Z3 := (Y2.below b3).below (below_new2 w7 (.cells #[.int .u64 (z2 : Int), .int .u64 (z : Int)] 25))
  have Y3 := Box2.new w7 25 (.int .u64 (z2 : Int)) (.int .u64 (z : Int))
  have B3 := below_call (below_call B2 b3) (below_new2 w7 (.cells #[.int .u64 (z2 : Int), .int .u64 (z : Int)] 25))
  clear b3
  go_upto_region 10 with fail
  generalize w7.alloc (.cells #[.int .u64 (z2 : Int), .int .u64 (z : Int)] 25) = w8 at *
  generalize w7.heap.size = g3 at *
  clear X2 Y2 c0 c1 B2
  have c0 := X3.c0
  have c1 := X3.c1
  have d0 := Z3.c0
  have d1 := Z3.c1
  have k0 := Y3.c0
  have k1 := Y3.c1
  go_upto_region 12 with fail
  clear Z3 Y3 d0 d1 k0 k1
  go_wp2_with fail
  refine (fit_at t z x d S4 A4 E4 P4 true rfl (by have := hz.out; omega) (by have := hx.out; omega) rfl (by have := hx.out; have := hy.out; have := hz.out; have := ho.out; omega) (by have := hx.out; have := hy.out; have := hz.out; have := ho.out; omega) (by have := hx.out; have := hy.out; have := hz.out; have := ho.out; omega) (by have := hx.out; have := hy.out; have := hz.out; have := ho.out; omega) f4S.out f4A.out f4E.out f4P.out f4B.out _).mono ?_
  rintro _ w9 ⟨rfl, b4⟩
  have X4 := (X3.below b4).below (below_new2 w9 (.cells #[.int .u64 (A4 : Int), .int .u64 (E4 : Int)] 25))
  have Y4 := Box2.new w9 25 (.int .u64 (A4 : Int)) (.int .u64 (E4 : Int))
  have B4 := below_call (below_call B3 b4) (below_new2 w9 (.cells #[.int .u64 (A4 : Int), .int .u64 (E4 : Int)] 25))
  clear b4
  go_upto_region 15 with fail
  generalize w9.alloc (.cells #[.int .u64 (A4 : Int), .int .u64 (E4 : Int)] 25) = w10 at *
  generalize w9.heap.size = g4 at *
  clear X3 Y4 c0 c1 B3
  have c0 := X4.c0
  have c1 := X4.c1
  go_wp2_with fail
  refine (fit_at t z x c S5 A5 E5 P5 true rfl (by have := hz.out; omega) (by have := hx.out; omega) rfl (by have := hx.out; have := hy.out; have := hz.out; have := ho.out; omega) (by have := hx.out; have := hy.out; have := hz.out; have := ho.out; omega) (by have := hx.out; have := hy.out; have := hz.out; have := ho.out; omega) (by have := hx.out; have := hy.out; have := hz.out; have := ho.out; omega) f5S.out f5A.out f5E.out f5P.out f5B.out _).mono ?_
  rintro _ w11 ⟨rfl, b5⟩
  have Y5 := Box2.new w11 25 (.int .u64 (A5 : Int)) (.int .u64 (E5 : Int))
  have B5 := below_call (below_call B4 b5) (below_new2 w11 (.cells #[.int .u64 (A5 : Int), .int .u64 (E5 : Int)] 25))
  clear b5
  go_upto_region 16 with fail
  generalize w11.alloc (.cells #[.int .u64 (A5 : Int), .int .u64 (E5 : Int)] 25) = w12 at *
  generalize w11.heap.size = g5 at *
  have HB := Lib.hid B5
  clear X4 Y5 c0 c1 B4 B5
  go_wp2
  go_ret
  exact ⟨rfl, HB.out⟩
set_option maxHeartbeats 4000000 in
theorem core_i0n (t l a b k j x y z o c d : Nat) (ht : t < 4294967296) (hl : l < 65536) (ha : a < 65536) (hb : b < 65536) (hk : k < 256) (hj : j < 256) (hx : Hid (a + 1 = x)) (hy : Hid (b + 1 = y)) (hz : Hid (t + l = z)) (ho : Hid (o = 0))
    (ec : IntKind.u64.wrap (2 ^ (k % 13)) = c) (ed : IntKind.u64.wrap (2 ^ (j % 13)) = d) (lc : c ≤ 4096) (ld : d ≤ 4096) (hm : k % 13 < j % 13)
    (z1 z2 : Nat) (hz1 : z1 < 18446744073709551616)
    (S4 A4 E4 P4 S5 A5 E5 P5 : Nat) (too : Bool)
    (f1S : Hid (M.fitS t z x 1 = t)) (f1A : Hid (M.fitA t z x 1 = z1)) (f1E : Hid (M.fitE t z x 1 = z)) (f1P : Hid (M.fitP t z x 1 = 0)) (f1B : Hid (M.fitB t z x 1 = true))
    (f2S : Hid (M.fitS z1 z y 1 = z1)) (f2A : Hid (M.fitA z1 z y 1 = z2)) (f2E : Hid (M.fitE z1 z y 1 = z)) (f2P : Hid (M.fitP z1 z y 1 = 0)) (f2B : Hid (M.fitB z1 z y 1 = true))
    (f3S : Hid (M.fitS t z (x + y) 1 = t)) (f3A : Hid (M.fitA t z (x + y) 1 = z2)) (f3E : Hid (M.fitE t z (x + y) 1 = z)) (f3P : Hid (M.fitP t z (x + y) 1 = 0)) (f3B : Hid (M.fitB t z (x + y) 1 = true))
    (f4S : Hid (M.fitS t z x d = S4)) (f4A : Hid (M.fitA t z x d = A4)) (f4E : Hid (M.fitE t z x d = E4)) (f4P : Hid (M.fitP t z x d = P4)) (f4B : Hid (M.fitB t z x d = false))
    (f5S : Hid (M.fitS t z x c = S5)) (f5A : Hid (M.fitA t z x c = A5)) (f5E : Hid (M.fitE t z x c = E5)) (f5P : Hid (M.fitP t z x c = P5)) (f5B : Hid (M.fitB t z x c = too))
    (w : World) : Calls Try.prog 7 #[.int .u32 t, .int .u16 l, .int .u16 a, .int .u16 b, .int .u8 k, .int .u8 j] w fun e w' => e = .returned (.bool true) ∧ Below w.heap.size w w' := by
  go_enter Try.func7, Try.ntmps7
  go_wp2_with fail
  refine (awake_any _).mono ?_
  rintro _ w1 ⟨rfl, b0⟩
  have Y0 := Box2.new w1 25 (.int .u64 t) (.int .u64 ((t : Int) + l))
  have B0 := below_call b0 (below_new2 w1 (.cells #[.int .u64 t, .int .u64 ((t : Int) + l)] 25))
  clear b0
  go_upto_region 5 with fail
  generalize w1.alloc (.cells #[.int .u64 t, .int .u64 ((t : Int) + l)] 25) = w2 at *
  generalize w1.heap.size = g at *
  have X0 := Y0
  clear Y0
  have c0 := X0.c0
  have c1 := X0.c1
  go_wp2_with fail
  refine (fit_at t z x 1 t z1 z 0 true rfl (by have := hz.out; omega) (by have := hx.out; omega) rfl (by have := hx.out; have := hy.out; have := hz.out; have := ho.out; omega) (by have := hx.out; have := hy.out; have := hz.out; have := ho.out; omega) (by have := hx.out; have := hy.out; have := hz.out; have := ho.out; omega) (by have := hx.out; have := hy.out; have := hz.out; have := ho.out; omega) f1S.out f1A.out f1E.out f1P.out f1B.out _).mono ?_
  rintro _ w3 ⟨rfl, b1⟩
  have X1 := (X0.below b1).below (below_new2 w3 (.cells #[.int .u64 (z1 : Int), .int .u64 (z : Int)] 25))
  have Y1 := Box2.new w3 25 (.int .u64 (z1 : Int)) (.int .u64 (z : Int))
  have B1 := below_call (below_call B0 b1) (below_new2 w3 (.cells #[.int .u64 (z1 : Int), .int .u64 (z : Int)] 25))
  clear b1
  go_upto_region 8 with fail
  generalize w3.alloc (.cells #[.int .u64 (z1 : Int), .int .u64 (z : Int)] 25) = w4 at *
  generalize w3.heap.size = g1 at *
  clear X0 c0 c1 B0
  have c0 := X1.c0
  have c1 := X1.c1
  have d0 := Y1.c0
  have d1 := Y1.c1
  go_wp2_with fail
  refine (fit_at z1 z y 1 z1 z2 z 0 true rfl rfl (by have := hy.out; omega) rfl (by have := hx.out; have := hy.out; have := hz.out; have := ho.out; omega) (by have := hx.out; have := hy.out; have := hz.out; have := ho.out; omega) (by have := hx.out; have := hy.out; have := hz.out; have := ho.out; omega) (by have := hx.out; have := hy.out; have := hz.out; have := ho.out; omega) f2S.out f2A.out f2E.out f2P.out f2B.out _).mono ?_
  rintro _ w5 ⟨rfl, b2⟩
  have X2 := (X1.below b2).below (below_new2 w5 (.cells #[.int .u64 (z2 : Int), .int .u64 (z : Int)] 25))
  have Y2 := Box2.new w5 25 (.int .u64 (z2 : Int)) (.int .u64 (z : Int))
  have B2 := below_call (below_call B1 b2) (below_new2 w5 (.cells #[.int .u64 (z2 : Int), .int .u64 (z : Int)] 25))
  clear b2
  go_upto_region 9 with fail
  generalize w5.alloc (.cells #[.int .u64 (z2 : Int), .int .u64 (z : Int)] 25) = w6 at *
  generalize w5.heap.size = g2 at *
  clear X1 Y1 c0 c1 d0 d1 B1
  have c0 := X2.c0
  have c1 := X2.c1
  go_wp2_with fail
  refine (fit_at t z (x + y) 1 t z2 z 0 true rfl (by have := hz.out; omega) (by have := hx.out; have := hy.out; have := hz.out; have := ho.out; omega) rfl (by have := hx.out; have := hy.out; have := hz.out; have := ho.out; omega) (by have := hx.out; have := hy.out; have := hz.out; have := ho.out; omega) (by have := hx.out; have := hy.out; have := hz.out; have := ho.out; omega) (by have := hx.out; have := hy.out; have := hz.out; have := ho.out; omega) f3S.out f3A.out f3E.out f3P.out f3B.out _).mono ?_
  rintro _ w7 ⟨rfl, b3⟩
  have X3 := (X2.below b3).below (below_new2 w7 (.cells #[.int .u64 (z2 : Int), .int .u64 (z : Int)] 25))
  have Z3 := (Y2.below b3).below (below_new2 w7 (.cells #[.int .u64 (z2 : Int), .int .u64 (z : Int)] 25))
  have Y3 := Box2.new w7 25 (.int .u64 (z2 : Int)) (.int .u64 (z : Int))
  have B3 := below_call (below_call B2 b3) (below_new2 w7 (.cells #[.int .u64 (z2 : Int), .int .u64 (z : Int)] 25))
  clear b3
  go_upto_region 10 with fail
  generalize w7.alloc (.cells #[.int .u64 (z2 : Int), .int .u64 (z : Int)] 25) = w8 at *
  generalize w7.heap.size = g3 at *
  clear X2 Y2 c0 c1 B2
  have c0 := X3.c0
  have c1 := X3.c1
  have d0 := Z3.c0
  have d1 := Z3.c1
  have k0 := Y3.c0
  have k1 := Y3.c1
  go_upto_region 12 with fail
  clear Z3 Y3 d0 d1 k0 k1
  go_wp2_with fail
  refine (fit_at t z x d S4 A4 E4 P4 false rfl (by have := hz.out; omega) (by have := hx.out; omega) rfl (by have := hx.out; have := hy.out; have := hz.out; have := ho.out; omega) (by have := hx.out; have := hy.out; have := hz.out; have := ho.out; omega) (by have := hx.out; have := hy.out; have := hz.out; have := ho.out; omega) (by have := hx.out; have := hy.out; have := hz.out; have := ho.out; omega) f4S.out f4A.out f4E.out f4P.out f4B.out _).mono ?_
  rintro _ w9 ⟨rfl, b4⟩
  have X4 := (X3.below b4).below (below_new2 w9 (.cells #[.int .u64 (A4 : Int), .int .u64 (E4 : Int)] 25))
  have Y4 := Box2.new w9 25 (.int .u64 (A4 : Int)) (.int .u64 (E4 : Int))
  have B4 := below_call (below_call B3 b4) (below_new2 w9 (.cells #[.int .u64 (A4 : Int), .int .u64 (E4 : Int)] 25))
  clear b4
  go_upto_region 15 with fail
  generalize w9.alloc (.cells #[.int .u64 (A4 : Int), .int .u64 (E4 : Int)] 25) = w10 at *
  generalize w9.heap.size = g4 at *
  clear X3 Y4 c0 c1 B3
  have c0 := X4.c0
  have c1 := X4.c1
  go_wp2_with fail
  refine (fit_at t z x c S5 A5 E5 P5 too rfl (by have := hz.out; omega) (by have := hx.out; omega) rfl (by have := hx.out; have := hy.out; have := hz.out; have := ho.out; omega) (by have := hx.out; have := hy.out; have := hz.out; have := ho.out; omega) (by have := hx.out; have := hy.out; have := hz.out; have := ho.out; omega) (by have := hx.out; have := hy.out; have := hz.out; have := ho.out; omega) f5S.out f5A.out f5E.out f5P.out f5B.out _).mono ?_
  rintro _ w11 ⟨rfl, b5⟩
  have Y5 := Box2.new w11 25 (.int .u64 (A5 : Int)) (.int .u64 (E5 : Int))
  have B5 := below_call (below_call B4 b5) (below_new2 w11 (.cells #[.int .u64 (A5 : Int), .int .u64 (E5 : Int)] 25))
  clear b5
  go_upto_region 16 with fail
  generalize w11.alloc (.cells #[.int .u64 (A5 : Int), .int .u64 (E5 : Int)] 25) = w12 at *
  generalize w11.heap.size = g5 at *
  have HB := Lib.hid B5
  clear X4 Y5 c0 c1 B4 B5
  go_wp2
  go_ret
  exact ⟨rfl, HB.out⟩
set_option maxHeartbeats 4000000 in
theorem core_i1y (t l a b k j x y z o c d : Nat) (ht : t < 4294967296) (hl : l < 65536) (ha : a < 65536) (hb : b < 65536) (hk : k < 256) (hj : j < 256) (hx : Hid (a + 1 = x)) (hy : Hid (b + 1 = y)) (hz : Hid (t + l = z)) (ho : Hid (o = 0))
    (ec : IntKind.u64.wrap (2 ^ (k % 13)) = c) (ed : IntKind.u64.wrap (2 ^ (j % 13)) = d) (lc : c ≤ 4096) (ld : d ≤ 4096) (hm : j % 13 < k % 13)
    (z1 z2 : Nat) (hz1 : z1 < 18446744073709551616)
    (S4 A4 E4 P4 S5 A5 E5 P5 : Nat) (hS : S5 ≤ S4)
    (f1S : Hid (M.fitS t z x 1 = t)) (f1A : Hid (M.fitA t z x 1 = z1)) (f1E : Hid (M.fitE t z x 1 = z)) (f1P : Hid (M.fitP t z x 1 = 0)) (f1B : Hid (M.fitB t z x 1 = true))
    (f2S : Hid (M.fitS z1 z y 1 = z1)) (f2A : Hid (M.fitA z1 z y 1 = z2)) (f2E : Hid (M.fitE z1 z y 1 = z)) (f2P : Hid (M.fitP z1 z y 1 = 0)) (f2B : Hid (M.fitB z1 z y 1 = true))
    (f3S : Hid (M.fitS t z (x + y) 1 = t)) (f3A : Hid (M.fitA t z (x + y) 1 = z2)) (f3E : Hid (M.fitE t z (x + y) 1 = z)) (f3P : Hid (M.fitP t z (x + y) 1 = 0)) (f3B : Hid (M.fitB t z (x + y) 1 = true))
    (f4S : Hid (M.fitS t z x c = S4)) (f4A : Hid (M.fitA t z x c = A4)) (f4E : Hid (M.fitE t z x c = E4)) (f4P : Hid (M.fitP t z x c = P4)) (f4B : Hid (M.fitB t z x c = true))
    (f5S : Hid (M.fitS t z x d = S5)) (f5A : Hid (M.fitA t z x d = A5)) (f5E : Hid (M.fitE t z x d = E5)) (f5P : Hid (M.fitP t z x d = P5)) (f5B : Hid (M.fitB t z x d = true))
    (w : World) : Calls Try.prog 7 #[.int .u32 t, .int .u16 l, .int .u16 a, .int .u16 b, .int .u8 k, .int .u8 j] w fun e w' => e = .returned (.bool true) ∧ Below w.heap.size w w' := by
  have zs : decide ((S5 : Int) ≤ S4) = true := decide_eq_true (by omega)
  go_enter Try.func7, Try.ntmps7
  go_wp2_with fail
  refine (awake_any _).mono ?_
  rintro _ w1 ⟨rfl, b0⟩
  have Y0 := Box2.new w1 25 (.int .u64 t) (.int .u64 ((t : Int) + l))
  have B0 := below_call b0 (below_new2 w1 (.cells #[.int .u64 t, .int .u64 ((t : Int) + l)] 25))
  clear b0
  go_upto_region 5 with fail
  generalize w1.alloc (.cells #[.int .u64 t, .int .u64 ((t : Int) + l)] 25) = w2 at *
  generalize w1.heap.size = g at *
  have X0 := Y0
  clear Y0
  have c0 := X0.c0
  have c1 := X0.c1
  go_wp2_with fail
  refine (fit_at t z x 1 t z1 z 0 true rfl (by have := hz.out; omega) (by have := hx.out; omega) rfl (by have := hx.out; have := hy.out; have := hz.out; have := ho.out; omega) (by have := hx.out; have := hy.out; have := hz.out; have := ho.out; omega) (by have := hx.out; have := hy.out; have := hz.out; have := ho.out; omega) (by have := hx.out; have := hy.out; have := hz.out; have := ho.out; omega) f1S.out f1A.out f1E.out f1P.out f1B.out _).mono ?_
  rintro _ w3 ⟨rfl, b1⟩
  have X1 := (X0.below b1).below (below_new2 w3 (.cells #[.int .u64 (z1 : Int), .int .u64 (z : Int)] 25))
  have Y1 := Box2.new w3 25 (.int .u64 (z1 : Int)) (.int .u64 (z : Int))
  have B1 := below_call (below_call B0 b1) (below_new2 w3 (.cells #[.int .u64 (z1 : Int), .int .u64 (z : Int)] 25))
  clear b1
  go_upto_region 8 with fail
  generalize w3.alloc (.cells #[.int .u64 (z1 : Int), .int .u64 (z : Int)] 25) = w4 at *
  generalize w3.heap.size = g1 at *
  clear X0 c0 c1 B0
  have c0 := X1.c0
  have c1 := X1.c1
  have d0 := Y1.c0
  have d1 := Y1.c1
  go_wp2_with fail
  refine (fit_at z1 z y 1 z1 z2 z 0 true rfl rfl (by have := hy.out; omega) rfl (by have := hx.out; have := hy.out; have := hz.out; have := ho.out; omega) (by have := hx.out; have := hy.out; have := hz.out; have := ho.out; omega) (by have := hx.out; have := hy.out; have := hz.out; have := ho.out; omega) (by have := hx.out; have := hy.out; have := hz.out; have := ho.out; omega) f2S.out f2A.out f2E.out f2P.out f2B.out _).mono ?_
  rintro _ w5 ⟨rfl, b2⟩
  have X2 := (X1.below b2).below (below_new2 w5 (.cells #[.int .u64 (z2 : Int), .int .u64 (z : Int)] 25))
  have Y2 := Box2.new w5 25 (.int .u64 (z2 : Int)) (.int .u64 (z : Int))
  have B2 := below_call (below_call B1 b2) (below_new2 w5 (.cells #[.int .u64 (z2 : Int), .int .u64 (z : Int)] 25))
  clear b2
  go_upto_region 9 with fail
  generalize w5.alloc (.cells #[.int .u64 (z2 : Int), .int .u64 (z : Int)] 25) = w6 at *
  generalize w5.heap.size = g2 at *
  clear X1 Y1 c0 c1 d0 d1 B1
  have c0 := X2.c0
  have c1 := X2.c1
  go_wp2_with fail
  refine (fit_at t z (x + y) 1 t z2 z 0 true rfl (by have := hz.out; omega) (by have := hx.out; have := hy.out; have := hz.out; have := ho.out; omega) rfl (by have := hx.out; have := hy.out; have := hz.out; have := ho.out; omega) (by have := hx.out; have := hy.out; have := hz.out; have := ho.out; omega) (by have := hx.out; have := hy.out; have := hz.out; have := ho.out; omega) (by have := hx.out; have := hy.out; have := hz.out; have := ho.out; omega) f3S.out f3A.out f3E.out f3P.out f3B.out _).mono ?_
  rintro _ w7 ⟨rfl, b3⟩
  have X3 := (X2.below b3).below (below_new2 w7 (.cells #[.int .u64 (z2 : Int), .int .u64 (z : Int)] 25))
  have Z3 := (Y2.below b3).below (below_new2 w7 (.cells #[.int .u64 (z2 : Int), .int .u64 (z : Int)] 25))
  have Y3 := Box2.new w7 25 (.int .u64 (z2 : Int)) (.int .u64 (z : Int))
  have B3 := below_call (below_call B2 b3) (below_new2 w7 (.cells #[.int .u64 (z2 : Int), .int .u64 (z : Int)] 25))
  clear b3
  go_upto_region 10 with fail
  generalize w7.alloc (.cells #[.int .u64 (z2 : Int), .int .u64 (z : Int)] 25) = w8 at *
  generalize w7.heap.size = g3 at *
  clear X2 Y2 c0 c1 B2
  have c0 := X3.c0
  have c1 := X3.c1
  have d0 := Z3.c0
  have d1 := Z3.c1
  have k0 := Y3.c0
  have k1 := Y3.c1
  go_upto_region 12 with fail
  clear Z3 Y3 d0 d1 k0 k1
  go_wp2_with fail
  refine (fit_at t z x c S4 A4 E4 P4 true rfl (by have := hz.out; omega) (by have := hx.out; omega) rfl (by have := hx.out; have := hy.out; have := hz.out; have := ho.out; omega) (by have := hx.out; have := hy.out; have := hz.out; have := ho.out; omega) (by have := hx.out; have := hy.out; have := hz.out; have := ho.out; omega) (by have := hx.out; have := hy.out; have := hz.out; have := ho.out; omega) f4S.out f4A.out f4E.out f4P.out f4B.out _).mono ?_
  rintro _ w9 ⟨rfl, b4⟩
  have X4 := (X3.below b4).below (below_new2 w9 (.cells #[.int .u64 (A4 : Int), .int .u64 (E4 : Int)] 25))
  have Y4 := Box2.new w9 25 (.int .u64 (A4 : Int)) (.int .u64 (E4 : Int))
  have B4 := below_call (below_call B3 b4) (below_new2 w9 (.cells #[.int .u64 (A4 : Int), .int .u64 (E4 : Int)] 25))
  clear b4
  go_upto_region 15 with fail
  generalize w9.alloc (.cells #[.int .u64 (A4 : Int), .int .u64 (E4 : Int)] 25) = w10 at *
  generalize w9.heap.size = g4 at *
  clear X3 Y4 c0 c1 B3
  have c0 := X4.c0
  have c1 := X4.c1
  go_wp2_with fail
  refine (fit_at t z x d S5 A5 E5 P5 true rfl (by have := hz.out; omega) (by have := hx.out; omega) rfl (by have := hx.out; have := hy.out; have := hz.out; have := ho.out; omega) (by have := hx.out; have := hy.out; have := hz.out; have := ho.out; omega) (by have := hx.out; have := hy.out; have := hz.out; have := ho.out; omega) (by have := hx.out; have := hy.out; have := hz.out; have := ho.out; omega) f5S.out f5A.out f5E.out f5P.out f5B.out _).mono ?_
  rintro _ w11 ⟨rfl, b5⟩
  have Y5 := Box2.new w11 25 (.int .u64 (A5 : Int)) (.int .u64 (E5 : Int))
  have B5 := below_call (below_call B4 b5) (below_new2 w11 (.cells #[.int .u64 (A5 : Int), .int .u64 (E5 : Int)] 25))
  clear b5
  go_upto_region 16 with fail
  generalize w11.alloc (.cells #[.int .u64 (A5 : Int), .int .u64 (E5 : Int)] 25) = w12 at *
  generalize w11.heap.size = g5 at *
  have HB := Lib.hid B5
  clear X4 Y5 c0 c1 B4 B5
  go_wp2
  go_ret
  exact ⟨rfl, HB.out⟩
set_option maxHeartbeats 4000000 in
theorem core_i1n (t l a b k j x y z o c d : Nat) (ht : t < 4294967296) (hl : l < 65536) (ha : a < 65536) (hb : b < 65536) (hk : k < 256) (hj : j < 256) (hx : Hid (a + 1 = x)) (hy : Hid (b + 1 = y)) (hz : Hid (t + l = z)) (ho : Hid (o = 0))
    (ec : IntKind.u64.wrap (2 ^ (k % 13)) = c) (ed : IntKind.u64.wrap (2 ^ (j % 13)) = d) (lc : c ≤ 4096) (ld : d ≤ 4096) (hm : j % 13 < k % 13)
    (z1 z2 : Nat) (hz1 : z1 < 18446744073709551616)
    (S4 A4 E4 P4 S5 A5 E5 P5 : Nat) (too : Bool)
    (f1S : Hid (M.fitS t z x 1 = t)) (f1A : Hid (M.fitA t z x 1 = z1)) (f1E : Hid (M.fitE t z x 1 = z)) (f1P : Hid (M.fitP t z x 1 = 0)) (f1B : Hid (M.fitB t z x 1 = true))
    (f2S : Hid (M.fitS z1 z y 1 = z1)) (f2A : Hid (M.fitA z1 z y 1 = z2)) (f2E : Hid (M.fitE z1 z y 1 = z)) (f2P : Hid (M.fitP z1 z y 1 = 0)) (f2B : Hid (M.fitB z1 z y 1 = true))
    (f3S : Hid (M.fitS t z (x + y) 1 = t)) (f3A : Hid (M.fitA t z (x + y) 1 = z2)) (f3E : Hid (M.fitE t z (x + y) 1 = z)) (f3P : Hid (M.fitP t z (x + y) 1 = 0)) (f3B : Hid (M.fitB t z (x + y) 1 = true))
    (f4S : Hid (M.fitS t z x c = S4)) (f4A : Hid (M.fitA t z x c = A4)) (f4E : Hid (M.fitE t z x c = E4)) (f4P : Hid (M.fitP t z x c = P4)) (f4B : Hid (M.fitB t z x c = false))
    (f5S : Hid (M.fitS t z x d = S5)) (f5A : Hid (M.fitA t z x d = A5)) (f5E : Hid (M.fitE t z x d = E5)) (f5P : Hid (M.fitP t z x d = P5)) (f5B : Hid (M.fitB t z x d = too))
    (w : World) : Calls Try.prog 7 #[.int .u32 t, .int .u16 l, .int .u16 a, .int .u16 b, .int .u8 k, .int .u8 j] w fun e w' => e = .returned (.bool true) ∧ Below w.heap.size w w' := by
  go_enter Try.func7, Try.ntmps7
  go_wp2_with fail
  refine (awake_any _).mono ?_
  rintro _ w1 ⟨rfl, b0⟩
  have Y0 := Box2.new w1 25 (.int .u64 t) (.int .u64 ((t : Int) + l))
  have B0 := below_call b0 (below_new2 w1 (.cells #[.int .u64 t, .int .u64 ((t : Int) + l)] 25))
  clear b0
  go_upto_region 5 with fail
  generalize w1.alloc (.cells #[.int .u64 t, .int .u64 ((t : Int) + l)] 25) = w2 at *
  generalize w1.heap.size = g at *
  have X0 := Y0
  clear Y0
  have c0 := X0.c0
  have c1 := X0.c1
  go_wp2_with fail
  refine (fit_at t z x 1 t z1 z 0 true rfl (by have := hz.out; omega) (by have := hx.out; omega) rfl (by have := hx.out; have := hy.out; have := hz.out; have := ho.out; omega) (by have := hx.out; have := hy.out; have := hz.out; have := ho.out; omega) (by have := hx.out; have := hy.out; have := hz.out; have := ho.out; omega) (by have := hx.out; have := hy.out; have := hz.out; have := ho.out; omega) f1S.out f1A.out f1E.out f1P.out f1B.out _).mono ?_
  rintro _ w3 ⟨rfl, b1⟩
  have X1 := (X0.below b1).below (below_new2 w3 (.cells #[.int .u64 (z1 : Int), .int .u64 (z : Int)] 25))
  have Y1 := Box2.new w3 25 (.int .u64 (z1 : Int)) (.int .u64 (z : Int))
  have B1 := below_call (below_call B0 b1) (below_new2 w3 (.cells #[.int .u64 (z1 : Int), .int .u64 (z : Int)] 25))
  clear b1
  go_upto_region 8 with fail
  generalize w3.alloc (.cells #[.int .u64 (z1 : Int), .int .u64 (z : Int)] 25) = w4 at *
  generalize w3.heap.size = g1 at *
  clear X0 c0 c1 B0
  have c0 := X1.c0
  have c1 := X1.c1
  have d0 := Y1.c0
  have d1 := Y1.c1
  go_wp2_with fail
  refine (fit_at z1 z y 1 z1 z2 z 0 true rfl rfl (by have := hy.out; omega) rfl (by have := hx.out; have := hy.out; have := hz.out; have := ho.out; omega) (by have := hx.out; have := hy.out; have := hz.out; have := ho.out; omega) (by have := hx.out; have := hy.out; have := hz.out; have := ho.out; omega) (by have := hx.out; have := hy.out; have := hz.out; have := ho.out; omega) f2S.out f2A.out f2E.out f2P.out f2B.out _).mono ?_
  rintro _ w5 ⟨rfl, b2⟩
  have X2 := (X1.below b2).below (below_new2 w5 (.cells #[.int .u64 (z2 : Int), .int .u64 (z : Int)] 25))
  have Y2 := Box2.new w5 25 (.int .u64 (z2 : Int)) (.int .u64 (z : Int))
  have B2 := below_call (below_call B1 b2) (below_new2 w5 (.cells #[.int .u64 (z2 : Int), .int .u64 (z : Int)] 25))
  clear b2
  go_upto_region 9 with fail
  generalize w5.alloc (.cells #[.int .u64 (z2 : Int), .int .u64 (z : Int)] 25) = w6 at *
  generalize w5.heap.size = g2 at *
  clear X1 Y1 c0 c1 d0 d1 B1
  have c0 := X2.c0
  have c1 := X2.c1
  go_wp2_with fail
  refine (fit_at t z (x + y) 1 t z2 z 0 true rfl (by have := hz.out; omega) (by have := hx.out; have := hy.out; have := hz.out; have := ho.out; omega) rfl (by have := hx.out; have := hy.out; have := hz.out; have := ho.out; omega) (by have := hx.out; have := hy.out; have := hz.out; have := ho.out; omega) (by have := hx.out; have := hy.out; have := hz.out; have := ho.out; omega) (by have := hx.out; have := hy.out; have := hz.out; have := ho.out; omega) f3S.out f3A.out f3E.out f3P.out f3B.out _).mono ?_
  rintro _ w7 ⟨rfl, b3⟩
  have X3 := (X2.below b3).below (below_new2 w7 (.cells #[.int .u64 (z2 : Int), .int .u64 (z : Int)] 25))
  have Z3 := (Y2.below b3).below (below_new2 w7 (.cells #[.int .u64 (z2 : Int), .int .u64 (z : Int)] 25))
  have Y3 := Box2.new w7 25 (.int .u64 (z2 : Int)) (.int .u64 (z : Int))
  have B3 := below_call (below_call B2 b3) (below_new2 w7 (.cells #[.int .u64 (z2 : Int), .int .u64 (z : Int)] 25))
  clear b3
  go_upto_region 10 with fail
  generalize w7.alloc (.cells #[.int .u64 (z2 : Int), .int .u64 (z : Int)] 25) = w8 at *
  generalize w7.heap.size = g3 at *
  clear X2 Y2 c0 c1 B2
  have c0 := X3.c0
  have c1 := X3.c1
  have d0 := Z3.c0
  have d1 := Z3.c1
  have k0 := Y3.c0
  have k1 := Y3.c1
  go_upto_region 12 with fail
  clear Z3 Y3 d0 d1 k0 k1
  go_wp2_with fail
  refine (fit_at t z x c S4 A4 E4 P4 false rfl (by have := hz.out; omega) (by have := hx.out; omega) rfl (by have := hx.out; have := hy.out; have := hz.out; have := ho.out; omega) (by have := hx.out; have := hy.out; have := hz.out; have := ho.out; omega) (by have := hx.out; have := hy.out; have := hz.out; have := ho.out; omega) (by have := hx.out; have := hy.out; have := hz.out; have := ho.out; omega) f4S.out f4A.out f4E.out f4P.out f4B.out _).mono ?_
  rintro _ w9 ⟨rfl, b4⟩
  have X4 := (X3.below b4).below (below_new2 w9 (.cells #[.int .u64 (A4 : Int), .int .u64 (E4 : Int)] 25))
  have Y4 := Box2.new w9 25 (.int .u64 (A4 : Int)) (.int .u64 (E4 : Int))
  have B4 := below_call (below_call B3 b4) (below_new2 w9 (.cells #[.int .u64 (A4 : Int), .int .u64 (E4 : Int)] 25))
  clear b4
  go_upto_region 15 with fail
  generalize w9.alloc (.cells #[.int .u64 (A4 : Int), .int .u64 (E4 : Int)] 25) = w10 at *
  generalize w9.heap.size = g4 at *
  clear X3 Y4 c0 c1 B3
  have c0 := X4.c0
  have c1 := X4.c1
  go_wp2_with fail
  refine (fit_at t z x d S5 A5 E5 P5 too rfl (by have := hz.out; omega) (by have := hx.out; omega) rfl (by have := hx.out; have := hy.out; have := hz.out; have := ho.out; omega) (by have := hx.out; have := hy.out; have := hz.out; have := ho.out; omega) (by have := hx.out; have := hy.out; have := hz.out; have := ho.out; omega) (by have := hx.out; have := hy.out; have := hz.out; have := ho.out; omega) f5S.out f5A.out f5E.out f5P.out f5B.out _).mono ?_
  rintro _ w11 ⟨rfl, b5⟩
  have Y5 := Box2.new w11 25 (.int .u64 (A5 : Int)) (.int .u64 (E5 : Int))
  have B5 := below_call (below_call B4 b5) (below_new2 w11 (.cells #[.int .u64 (A5 : Int), .int .u64 (E5 : Int)] 25))
  clear b5
  go_upto_region 16 with fail
  generalize w11.alloc (.cells #[.int .u64 (A5 : Int), .int .u64 (E5 : Int)] 25) = w12 at *
  generalize w11.heap.size = g5 at *
  have HB := Lib.hid B5
  clear X4 Y5 c0 c1 B4 B5
  go_wp2
  go_ret
  exact ⟨rfl, HB.out⟩
set_option maxHeartbeats 4000000 in
theorem core_i2y (t l a b k j x y z o c d : Nat) (ht : t < 4294967296) (hl : l < 65536) (ha : a < 65536) (hb : b < 65536) (hk : k < 256) (hj : j < 256) (hx : Hid (a + 1 = x)) (hy : Hid (b + 1 = y)) (hz : Hid (t + l = z)) (ho : Hid (o = 0))
    (ec : IntKind.u64.wrap (2 ^ (k % 13)) = c) (ed : IntKind.u64.wrap (2 ^ (j % 13)) = d) (lc : c ≤ 4096) (ld : d ≤ 4096) (hm : k % 13 ≤ j % 13) (hm2 : j % 13 ≤ k % 13)
    (z1 z2 : Nat) (hz1 : z1 < 18446744073709551616)
    (S4 A4 E4 P4 S5 A5 E5 P5 : Nat) (hS : S5 ≤ S4)
    (f1S : Hid (M.fitS t z x 1 = t)) (f1A : Hid (M.fitA t z x 1 = z1)) (f1E : Hid (M.fitE t z x 1 = z)) (f1P : Hid (M.fitP t z x 1 = 0)) (f1B : Hid (M.fitB t z x 1 = true))
    (f2S : Hid (M.fitS z1 z y 1 = z1)) (f2A : Hid (M.fitA z1 z y 1 = z2)) (f2E : Hid (M.fitE z1 z y 1 = z)) (f2P : Hid (M.fitP z1 z y 1 = 0)) (f2B : Hid (M.fitB z1 z y 1 = true))
    (f3S : Hid (M.fitS t z (x + y) 1 = t)) (f3A : Hid (M.fitA t z (x + y) 1 = z2)) (f3E : Hid (M.fitE t z (x + y) 1 = z)) (f3P : Hid (M.fitP t z (x + y) 1 = 0)) (f3B : Hid (M.fitB t z (x + y) 1 = true))
    (f4S : Hid (M.fitS t z x c = S4)) (f4A : Hid (M.fitA t z x c = A4)) (f4E : Hid (M.fitE t z x c = E4)) (f4P : Hid (M.fitP t z x c = P4)) (f4B : Hid (M.fitB t z x c = true))
    (f5S : Hid (M.fitS t z x c = S5)) (f5A : Hid (M.fitA t z x c = A5)) (f5E : Hid (M.fitE t z x c = E5)) (f5P : Hid (M.fitP t z x c = P5)) (f5B : Hid (M.fitB t z x c = true))
    (w : World) : Calls Try.prog 7 #[.int .u32 t, .int .u16 l, .int .u16 a, .int .u16 b, .int .u8 k, .int .u8 j] w fun e w' => e = .returned (.bool true) ∧ Below w.heap.size w w' := by
  have zs : decide ((S5 : Int) ≤ S4) = true := decide_eq_true (by omega)
  go_enter Try.func7, Try.ntmps7
  go_wp2_with fail
  refine (awake_any _).mono ?_
  rintro _ w1 ⟨rfl, b0⟩
  have Y0 := Box2.new w1 25 (.int .u64 t) (.int .u64 ((t : Int) + l))
  have B0 := below_call b0 (below_new2 w1 (.cells #[.int .u64 t, .int .u64 ((t : Int) + l)] 25))
  clear b0
  go_upto_region 5 with fail
  generalize w1.alloc (.cells #[.int .u64 t, .int .u64 ((t : Int) + l)] 25) = w2 at *
  generalize w1.heap.size = g at *
  have X0 := Y0
  clear Y0
  have c0 := X0.c0
  have c1 := X0.c1
  go_wp2_with fail
  refine (fit_at t z x 1 t z1 z 0 true rfl (by have := hz.out; omega) (by have := hx.out; omega) rfl (by have := hx.out; have := hy.out; have := hz.out; have := ho.out; omega) (by have := hx.out; have := hy.out; have := hz.out; have := ho.out; omega) (by have := hx.out; have := hy.out; have := hz.out; have := ho.out; omega) (by have := hx.out; have := hy.out; have := hz.out; have := ho.out; omega) f1S.out f1A.out f1E.out f1P.out f1B.out _).mono ?_
  rintro _ w3 ⟨rfl, b1⟩
  have X1 := (X0.below b1).below (below_new2 w3 (.cells #[.int .u64 (z1 : Int), .int .u64 (z : Int)] 25))
  have Y1 := Box2.new w3 25 (.int .u64 (z1 : Int)) (.int .u64 (z : Int))
  have B1 := below_call (below_call B0 b1) (below_new2 w3 (.cells #[.int .u64 (z1 : Int), .int .u64 (z : Int)] 25))
  clear b1
  go_upto_region 8 with fail
  generalize w3.alloc (.cells #[.int .u64 (z1 : Int), .int .u64 (z : Int)] 25) = w4 at *
  generalize w3.heap.size = g1 at *
  clear X0 c0 c1 B0
  have c0 := X1.c0
  have c1 := X1.c1
  have d0 := Y1.c0
  have d1 := Y1.c1
  go_wp2_with fail
  refine (fit_at z1 z y 1 z1 z2 z 0 true rfl rfl (by have := hy.out; omega) rfl (by have := hx.out; have := hy.out; have := hz.out; have := ho.out; omega) (by have := hx.out; have := hy.out; have := hz.out; have := ho.out; omega) (by have := hx.out; have := hy.out; have := hz.out; have := ho.out; omega) (by have := hx.out; have := hy.out; have := hz.out; have := ho.out; omega) f2S.out f2A.out f2E.out f2P.out f2B.out _).mono ?_
  rintro _ w5 ⟨rfl, b2⟩
  have X2 := (X1.below b2).below (below_new2 w5 (.cells #[.int .u64 (z2 : Int), .int .u64 (z : Int)] 25))
  have Y2 := Box2.new w5 25 (.int .u64 (z2 : Int)) (.int .u64 (z : Int))
  have B2 := below_call (below_call B1 b2) (below_new2 w5 (.cells #[.int .u64 (z2 : Int), .int .u64 (z : Int)] 25))
  clear b2
  go_upto_region 9 with fail
  generalize w5.alloc (.cells #[.int .u64 (z2 : Int), .int .u64 (z : Int)] 25) = w6 at *
  generalize w5.heap.size = g2 at *
  clear X1 Y1 c0 c1 d0 d1 B1
  have c0 := X2.c0
  have c1 := X2.c1
  go_wp2_with fail
  refine (fit_at t z (x + y) 1 t z2 z 0 true rfl (by have := hz.out; omega) (by have := hx.out; have := hy.out; have := hz.out; have := ho.out; omega) rfl (by have := hx.out; have := hy.out; have := hz.out; have := ho.out; omega) (by have := hx.out; have := hy.out; have := hz.out; have := ho.out; omega) (by have := hx.out; have := hy.out; have := hz.out; have := ho.out; omega) (by have := hx.out; have := hy.out; have := hz.out; have := ho.out; omega) f3S.out f3A.out f3E.out f3P.out f3B.out _).mono ?_
  rintro _ w7 ⟨rfl, b3⟩
  have X3 := (X2.below b3).below (below_new2 w7 (.cells #[.int .u64 (z2 : Int), .int .u64 (z : Int)] 25))
  have Z3 := (Y2.below b3).below (below_new2 w7 (.cells #[.int .u64 (z2 : Int), .int .u64 (z : Int)] 25))
  have Y3 := Box2.new w7 25 (.int .u64 (z2 : Int)) (.int .u64 (z : Int))
  have B3 := below_call (below_call B2 b3) (below_new2 w7 (.cells #[.int .u64 (z2 : Int), .int .u64 (z : Int)] 25))
  clear b3
  go_upto_region 10 with fail
  generalize w7.alloc (.cells #[.int .u64 (z2 : Int), .int .u64 (z : Int)] 25) = w8 at *
  generalize w7.heap.size = g3 at *
  clear X2 Y2 c0 c1 B2
  have c0 := X3.c0
  have c1 := X3.c1
  have d0 := Z3.c0
  have d1 := Z3.c1
  have k0 := Y3.c0
  have k1 := Y3.c1
  go_upto_region 12 with fail
  clear Z3 Y3 d0 d1 k0 k1
  go_wp2_with fail
  refine (fit_at t z x c S4 A4 E4 P4 true rfl (by have := hz.out; omega) (by have := hx.out; omega) rfl (by have := hx.out; have := hy.out; have := hz.out; have := ho.out; omega) (by have := hx.out; have := hy.out; have := hz.out; have := ho.out; omega) (by have := hx.out; have := hy.out; have := hz.out; have := ho.out; omega) (by have := hx.out; have := hy.out; have := hz.out; have := ho.out; omega) f4S.out f4A.out f4E.out f4P.out f4B.out _).mono ?_
  rintro _ w9 ⟨rfl, b4⟩
  have X4 := (X3.below b4).below (below_new2 w9 (.cells #[.int .u64 (A4 : Int), .int .u64 (E4 : Int)] 25))
  have Y4 := Box2.new w9 25 (.int .u64 (A4 : Int)) (.int .u64 (E4 : Int))
  have B4 := below_call (below_call B3 b4) (below_new2 w9 (.cells #[.int .u64 (A4 : Int), .int .u64 (E4 : Int)] 25))
  clear b4
  go_upto_region 15 with fail
  generalize w9.alloc (.cells #[.int .u64 (A4 : Int), .int .u64 (E4 : Int)] 25) = w10 at *
  generalize w9.heap.size = g4 at *
  clear X3 Y4 c0 c1 B3
  have c0 := X4.c0
  have c1 := X4.c1
  go_wp2_with fail
  refine (fit_at t z x c S5 A5 E5 P5 true rfl (by have := hz.out; omega) (by have := hx.out; omega) rfl (by have := hx.out; have := hy.out; have := hz.out; have := ho.out; omega) (by have := hx.out; have := hy.out; have := hz.out; have := ho.out; omega) (by have := hx.out; have := hy.out; have := hz.out; have := ho.out; omega) (by have := hx.out; have := hy.out; have := hz.out; have := ho.out; omega) f5S.out f5A.out f5E.out f5P.out f5B.out _).mono ?_
  rintro _ w11 ⟨rfl, b5⟩
  have Y5 := Box2.new w11 25 (.int .u64 (A5 : Int)) (.int .u64 (E5 : Int))
  have B5 := below_call (below_call B4 b5) (below_new2 w11 (.cells #[.int .u64 (A5 : Int), .int .u64 (E5 : Int)] 25))
  clear b5
  go_upto_region 16 with fail
  generalize w11.alloc (.cells #[.int .u64 (A5 : Int), .int .u64 (E5 : Int)] 25) = w12 at *
  generalize w11.heap.size = g5 at *
  have HB := Lib.hid B5
  clear X4 Y5 c0 c1 B4 B5
  go_wp2
  go_ret
  exact ⟨rfl, HB.out⟩
set_option maxHeartbeats 4000000 in
theorem core_i2n (t l a b k j x y z o c d : Nat) (ht : t < 4294967296) (hl : l < 65536) (ha : a < 65536) (hb : b < 65536) (hk : k < 256) (hj : j < 256) (hx : Hid (a + 1 = x)) (hy : Hid (b + 1 = y)) (hz : Hid (t + l = z)) (ho : Hid (o = 0))
    (ec : IntKind.u64.wrap (2 ^ (k % 13)) = c) (ed : IntKind.u64.wrap (2 ^ (j % 13)) = d) (lc : c ≤ 4096) (ld : d ≤ 4096) (hm : k % 13 ≤ j % 13) (hm2 : j % 13 ≤ k % 13)
    (z1 z2 : Nat) (hz1 : z1 < 18446744073709551616)
    (S4 A4 E4 P4 S5 A5 E5 P5 : Nat) (too : Bool)
    (f1S : Hid (M.fitS t z x 1 = t)) (f1A : Hid (M.fitA t z x 1 = z1)) (f1E : Hid (M.fitE t z x 1 = z)) (f1P : Hid (M.fitP t z x 1 = 0)) (f1B : Hid (M.fitB t z x 1 = true))
    (f2S : Hid (M.fitS z1 z y 1 = z1)) (f2A : Hid (M.fitA z1 z y 1 = z2)) (f2E : Hid (M.fitE z1 z y 1 = z)) (f2P : Hid (M.fitP z1 z y 1 = 0)) (f2B : Hid (M.fitB z1 z y 1 = true))
    (f3S : Hid (M.fitS t z (x + y) 1 = t)) (f3A : Hid (M.fitA t z (x + y) 1 = z2)) (f3E : Hid (M.fitE t z (x + y) 1 = z)) (f3P : Hid (M.fitP t z (x + y) 1 = 0)) (f3B : Hid (M.fitB t z (x + y) 1 = true))
    (f4S : Hid (M.fitS t z x c = S4)) (f4A : Hid (M.fitA t z x c = A4)) (f4E : Hid (M.fitE t z x c = E4)) (f4P : Hid (M.fitP t z x c = P4)) (f4B : Hid (M.fitB t z x c = false))
    (f5S : Hid (M.fitS t z x c = S5)) (f5A : Hid (M.fitA t z x c = A5)) (f5E : Hid (M.fitE t z x c = E5)) (f5P : Hid (M.fitP t z x c = P5)) (f5B : Hid (M.fitB t z x c = too))
    (w : World) : Calls Try.prog 7 #[.int .u32 t, .int .u16 l, .int .u16 a, .int .u16 b, .int .u8 k, .int .u8 j] w fun e w' => e = .returned (.bool true) ∧ Below w.heap.size w w' := by
  go_enter Try.func7, Try.ntmps7
  go_wp2_with fail
  refine (awake_any _).mono ?_
  rintro _ w1 ⟨rfl, b0⟩
  have Y0 := Box2.new w1 25 (.int .u64 t) (.int .u64 ((t : Int) + l))
  have B0 := below_call b0 (below_new2 w1 (.cells #[.int .u64 t, .int .u64 ((t : Int) + l)] 25))
  clear b0
  go_upto_region 5 with fail
  generalize w1.alloc (.cells #[.int .u64 t, .int .u64 ((t : Int) + l)] 25) = w2 at *
  generalize w1.heap.size = g at *
  have X0 := Y0
  clear Y0
  have c0 := X0.c0
  have c1 := X0.c1
  go_wp2_with fail
  refine (fit_at t z x 1 t z1 z 0 true rfl (by have := hz.out; omega) (by have := hx.out; omega) rfl (by have := hx.out; have := hy.out; have := hz.out; have := ho.out; omega) (by have := hx.out; have := hy.out; have := hz.out; have := ho.out; omega) (by have := hx.out; have := hy.out; have := hz.out; have := ho.out; omega) (by have := hx.out; have := hy.out; have := hz.out; have := ho.out; omega) f1S.out f1A.out f1E.out f1P.out f1B.out _).mono ?_
  rintro _ w3 ⟨rfl, b1⟩
  have X1 := (X0.below b1).below (below_new2 w3 (.cells #[.int .u64 (z1 : Int), .int .u64 (z : Int)] 25))
  have Y1 := Box2.new w3 25 (.int .u64 (z1 : Int)) (.int .u64 (z : Int))
  have B1 := below_call (below_call B0 b1) (below_new2 w3 (.cells #[.int .u64 (z1 : Int), .int .u64 (z : Int)] 25))
  clear b1
  go_upto_region 8 with fail
  generalize w3.alloc (.cells #[.int .u64 (z1 : Int), .int .u64 (z : Int)] 25) = w4 at *
  generalize w3.heap.size = g1 at *
  clear X0 c0 c1 B0
  have c0 := X1.c0
  have c1 := X1.c1
  have d0 := Y1.c0
  have d1 := Y1.c1
  go_wp2_with fail
  refine (fit_at z1 z y 1 z1 z2 z 0 true rfl rfl (by have := hy.out; omega) rfl (by have := hx.out; have := hy.out; have := hz.out; have := ho.out; omega) (by have := hx.out; have := hy.out; have := hz.out; have := ho.out; omega) (by have := hx.out; have := hy.out; have := hz.out; have := ho.out; omega) (by have := hx.out; have := hy.out; have := hz.out; have := ho.out; omega) f2S.out f2A.out f2E.out f2P.out f2B.out _).mono ?_
  rintro _ w5 ⟨rfl, b2⟩
  have X2 := (X1.below b2).below (below_new2 w5 (.cells #[.int .u64 (z2 : Int), .int .u64 (z : Int)] 25))
  have Y2 := Box2.new w5 25 (.int .u64 (z2 : Int)) (.int .u64 (z : Int))
  have B2 := below_call (below_call B1 b2) (below_new2 w5 (.cells #[.int .u64 (z2 : Int), .int .u64 (z : Int)] 25))
  clear b2
  go_upto_region 9 with fail
  generalize w5.alloc (.cells #[.int .u64 (z2 : Int), .int .u64 (z : Int)] 25) = w6 at *
  generalize w5.heap.size = g2 at *
  clear X1 Y1 c0 c1 d0 d1 B1
  have c0 := X2.c0
  have c1 := X2.c1
  go_wp2_with fail
  refine (fit_at t z (x + y) 1 t z2 z 0 true rfl (by have := hz.out; omega) (by have := hx.out; have := hy.out; have := hz.out; have := ho.out; omega) rfl (by have := hx.out; have := hy.out; have := hz.out; have := ho.out; omega) (by have := hx.out; have := hy.out; have := hz.out; have := ho.out; omega) (by have := hx.out; have := hy.out; have := hz.out; have := ho.out; omega) (by have := hx.out; have := hy.out; have := hz.out; have := ho.out; omega) f3S.out f3A.out f3E.out f3P.out f3B.out _).mono ?_
  rintro _ w7 ⟨rfl, b3⟩
  have X3 := (X2.below b3).below (below_new2 w7 (.cells #[.int .u64 (z2 : Int), .int .u64 (z : Int)] 25))
  have Z3 := (Y2.below b3).below (below_new2 w7 (.cells #[.int .u64 (z2 : Int), .int .u64 (z : Int)] 25))
  have Y3 := Box2.new w7 25 (.int .u64 (z2 : Int)) (.int .u64 (z : Int))
  have B3 := below_call (below_call B2 b3) (below_new2 w7 (.cells #[.int .u64 (z2 : Int), .int .u64 (z : Int)] 25))
  clear b3
  go_upto_region 10 with fail
  generalize w7.alloc (.cells #[.int .u64 (z2 : Int), .int .u64 (z : Int)] 25) = w8 at *
  generalize w7.heap.size = g3 at *
  clear X2 Y2 c0 c1 B2
  have c0 := X3.c0
  have c1 := X3.c1
  have d0 := Z3.c0
  have d1 := Z3.c1
  have k0 := Y3.c0
  have k1 := Y3.c1
  go_upto_region 12 with fail
  clear Z3 Y3 d0 d1 k0 k1
  go_wp2_with fail
  refine (fit_at t z x c S4 A4 E4 P4 false rfl (by have := hz.out; omega) (by have := hx.out; omega) rfl (by have := hx.out; have := hy.out; have := hz.out; have := ho.out; omega) (by have := hx.out; have := hy.out; have := hz.out; have := ho.out; omega) (by have := hx.out; have := hy.out; have := hz.out; have := ho.out; omega) (by have := hx.out; have := hy.out; have := hz.out; have := ho.out; omega) f4S.out f4A.out f4E.out f4P.out f4B.out _).mono ?_
  rintro _ w9 ⟨rfl, b4⟩
  have X4 := (X3.below b4).below (below_new2 w9 (.cells #[.int .u64 (A4 : Int), .int .u64 (E4 : Int)] 25))
  have Y4 := Box2.new w9 25 (.int .u64 (A4 : Int)) (.int .u64 (E4 : Int))
  have B4 := below_call (below_call B3 b4) (below_new2 w9 (.cells #[.int .u64 (A4 : Int), .int .u64 (E4 : Int)] 25))
  clear b4
  go_upto_region 15 with fail
  generalize w9.alloc (.cells #[.int .u64 (A4 : Int), .int .u64 (E4 : Int)] 25) = w10 at *
  generalize w9.heap.size = g4 at *
  clear X3 Y4 c0 c1 B3
  have c0 := X4.c0
  have c1 := X4.c1
  go_wp2_with fail
  refine (fit_at t z x c S5 A5 E5 P5 too rfl (by have := hz.out; omega) (by have := hx.out; omega) rfl (by have := hx.out; have := hy.out; have := hz.out; have := ho.out; omega) (by have := hx.out; have := hy.out; have := hz.out; have := ho.out; omega) (by have := hx.out; have := hy.out; have := hz.out; have := ho.out; omega) (by have := hx.out; have := hy.out; have := hz.out; have := ho.out; omega) f5S.out f5A.out f5E.out f5P.out f5B.out _).mono ?_
  rintro _ w11 ⟨rfl, b5⟩
  have Y5 := Box2.new w11 25 (.int .u64 (A5 : Int)) (.int .u64 (E5 : Int))
  have B5 := below_call (below_call B4 b5) (below_new2 w11 (.cells #[.int .u64 (A5 : Int), .int .u64 (E5 : Int)] 25))
  clear b5
  go_upto_region 16 with fail
  generalize w11.alloc (.cells #[.int .u64 (A5 : Int), .int .u64 (E5 : Int)] 25) = w12 at *
  generalize w11.heap.size = g5 at *
  have HB := Lib.hid B5
  clear X4 Y5 c0 c1 B4 B5
  go_wp2
  go_ret
  exact ⟨rfl, HB.out⟩
set_option maxHeartbeats 4000000 in
theorem core_p0y (t l a b k j x y z o c d : Nat) (ht : t < 4294967296) (hl : l < 65536) (ha : a < 65536) (hb : b < 65536) (hk : k < 256) (hj : j < 256) (hx : Hid (a + 1 = x)) (hy : Hid (b + 1 = y)) (hz : Hid (t + l = z)) (ho : Hid (o = 0))
    (ec : IntKind.u64.wrap (2 ^ (k % 13)) = c) (ed : IntKind.u64.wrap (2 ^ (j % 13)) = d) (lc : c ≤ 4096) (ld : d ≤ 4096) (hm : k % 13 < j % 13)
    (z1 : Nat) (hz1 : z1 < 18446744073709551616)
    (S4 A4 E4 P4 S5 A5 E5 P5 : Nat) (hS : S5 ≤ S4)
    (f1S : Hid (M.fitS t z x 1 = t)) (f1A : Hid (M.fitA t z x 1 = z1)) (f1E : Hid (M.fitE t z x 1 = z)) (f1P : Hid (M.fitP t z x 1 = 0)) (f1B : Hid (M.fitB t z x 1 = true))
    (f2S : Hid (M.fitS z1 z y 1 = o)) (f2A : Hid (M.fitA z1 z y 1 = o)) (f2E : Hid (M.fitE z1 z y 1 = o)) (f2P : Hid (M.fitP z1 z y 1 = o)) (f2B : Hid (M.fitB z1 z y 1 = false))
    (f3S : Hid (M.fitS t z (x + y) 1 = o)) (f3A : Hid (M.fitA t z (x + y) 1 = o)) (f3E : Hid (M.fitE t z (x + y) 1 = o)) (f3P : Hid (M.fitP t z (x + y) 1 = o)) (f3B : Hid (M.fitB t z (x + y) 1 = false))
    (f4S : Hid (M.fitS t z x d = S4)) (f4A : Hid (M.fitA t z x d = A4)) (f4E : Hid (M.fitE t z x d = E4)) (f4P : Hid (M.fitP t z x d = P4)) (f4B : Hid (M.fitB t z x d = true))
    (f5S : Hid (M.fitS t z x c = S5)) (f5A : Hid (M.fitA t z x c = A5)) (f5E : Hid (M.fitE t z x c = E5)) (f5P : Hid (M.fitP t z x c = P5)) (f5B : Hid (M.fitB t z x c = true))
    (w : World) : Calls Try.prog 7 #[.int .u32 t, .int .u16 l, .int .u16 a, .int .u16 b, .int .u8 k, .int .u8 j] w fun e w' => e = .returned (.bool true) ∧ Below w.heap.size w w' := by
  have zs : decide ((S5 : Int) ≤ S4) = true := decide_eq_true (by omega)
  go_enter Try.func7, Try.ntmps7
  go_wp2_with fail
  refine (awake_any _).mono ?_
  rintro _ w1 ⟨rfl, b0⟩
  have Y0 := Box2.new w1 25 (.int .u64 t) (.int .u64 ((t : Int) + l))
  have B0 := below_call b0 (below_new2 w1 (.cells #[.int .u64 t, .int .u64 ((t : Int) + l)] 25))
  clear b0
  go_upto_region 5 with fail
  generalize w1.alloc (.cells #[.int .u64 t, .int .u64 ((t : Int) + l)] 25) = w2 at *
  generalize w1.heap.size = g at *
  have X0 := Y0
  clear Y0
  have c0 := X0.c0
  have c1 := X0.c1
  go_wp2_with fail
  refine (fit_at t z x 1 t z1 z 0 true rfl (by have := hz.out; omega) (by have := hx.out; omega) rfl (by have := hx.out; have := hy.out; have := hz.out; have := ho.out; omega) (by have := hx.out; have := hy.out; have := hz.out; have := ho.out; omega) (by have := hx.out; have := hy.out; have := hz.out; have := ho.out; omega) (by have := hx.out; have := hy.out; have := hz.out; have := ho.out; omega) f1S.out f1A.out f1E.out f1P.out f1B.out _).mono ?_
  rintro _ w3 ⟨rfl, b1⟩
  have X1 := (X0.below b1).below (below_new2 w3 (.cells #[.int .u64 (z1 : Int), .int .u64 (z : Int)] 25))
  have Y1 := Box2.new w3 25 (.int .u64 (z1 : Int)) (.int .u64 (z : Int))
  have B1 := below_call (below_call B0 b1) (below_new2 w3 (.cells #[.int .u64 (z1 : Int), .int .u64 (z : Int)] 25))
  clear b1
  go_upto_region 8 with fail
  generalize w3.alloc (.cells #[.int .u64 (z1 : Int), .int .u64 (z : Int)] 25) = w4 at *
  generalize w3.heap.size = g1 at *
  clear X0 c0 c1 B0
  have c0 := X1.c0
  have c1 := X1.c1
  have d0 := Y1.c0
  have d1 := Y1.c1
  go_wp2_with fail
  refine (fit_at z1 z y 1 o o o o false rfl rfl (by have := hy.out; omega) rfl (by have := hx.out; have := hy.out; have := hz.out; have := ho.out; omega) (by have := hx.out; have := hy.out; have := hz.out; have := ho.out; omega) (by have := hx.out; have := hy.out; have := hz.out; have := ho.out; omega) (by have := hx.out; have := hy.out; have := hz.out; have := ho.out; omega) f2S.out f2A.out f2E.out f2P.out f2B.out _).mono ?_
  rintro _ w5 ⟨rfl, b2⟩
  have X2 := (X1.below b2).below (below_new2 w5 (.cells #[.int .u64 (o : Int), .int .u64 (o : Int)] 25))
  have Y2 := Box2.new w5 25 (.int .u64 (o : Int)) (.int .u64 (o : Int))
  have B2 := below_call (below_call B1 b2) (below_new2 w5 (.cells #[.int .u64 (o : Int), .int .u64 (o : Int)] 25))
  clear b2
  go_upto_region 9 with fail
  generalize w5.alloc (.cells #[.int .u64 (o : Int), .int .u64 (o : Int)] 25) = w6 at *
  generalize w5.heap.size = g2 at *
  clear X1 Y1 c0 c1 d0 d1 B1
  have c0 := X2.c0
  have c1 := X2.c1
  go_wp2_with fail
  refine (fit_at t z (x + y) 1 o o o o false rfl (by have := hz.out; omega) (by have := hx.out; have := hy.out; have := hz.out; have := ho.out; omega) rfl (by have := hx.out; have := hy.out; have := hz.out; have := ho.out; omega) (by have := hx.out; have := hy.out; have := hz.out; have := ho.out; omega) (by have := hx.out; have := hy.out; have := hz.out; have := ho.out; omega) (by have := hx.out; have := hy.out; have := hz.out; have := ho.out; omega) f3S.out f3A.out f3E.out f3P.out f3B.out _).mono ?_
  rintro _ w7 ⟨rfl, b3⟩
  have X3 := (X2.below b3).below (below_new2 w7 (.cells #[.int .u64 (o : Int), .int .u64 (o : Int)] 25))
  have Z3 := (Y2.below b3).below (below_new2 w7 (.cells #[.int .u64 (o : Int), .int .u64 (o : Int)] 25))
  have Y3 := Box2.new w7 25 (.int .u64 (o : Int)) (.int .u64 (o : Int))
  have B3 := below_call (below_call B2 b3) (below_new2 w7 (.cells #[.int .u64 (o : Int), .int .u64 (o : Int)] 25))
  clear b3
  go_upto_region 10 with fail
  generalize w7.alloc (.cells #[.int .u64 (o : Int), .int .u64 (o : Int)] 25) = w8 at *
  generalize w7.heap.size = g3 at *
  clear X2 Y2 c0 c1 B2
  have c0 := X3.c0
  have c1 := X3.c1
  have d0 := Z3.c0
  have d1 := Z3.c1
  have k0 := Y3.c0
  have k1 := Y3.c1
  go_upto_region 12 with fail
  clear Z3 Y3 d0 d1 k0 k1
  go_wp2_with fail
  refine (fit_at t z x d S4 A4 E4 P4 true rfl (by have := hz.out; omega) (by have := hx.out; omega) rfl (by have := hx.out; have := hy.out; have := hz.out; have := ho.out; omega) (by have := hx.out; have := hy.out; have := hz.out; have := ho.out; omega) (by have := hx.out; have := hy.out; have := hz.out; have := ho.out; omega) (by have := hx.out; have := hy.out; have := hz.out; have := ho.out; omega) f4S.out f4A.out f4E.out f4P.out f4B.out _).mono ?_
  rintro _ w9 ⟨rfl, b4⟩
  have X4 := (X3.below b4).below (below_new2 w9 (.cells #[.int .u64 (A4 : Int), .int .u64 (E4 : Int)] 25))
  have Y4 := Box2.new w9 25 (.int .u64 (A4 : Int)) (.int .u64 (E4 : Int))
  have B4 := below_call (below_call B3 b4) (below_new2 w9 (.cells #[.int .u64 (A4 : Int), .int .u64 (E4 : Int)] 25))
  clear b4
  go_upto_region 15 with fail
  generalize w9.alloc (.cells #[.int .u64 (A4 : Int), .int .u64 (E4 : Int)] 25) = w10 at *
  generalize w9.heap.size = g4 at *
  clear X3 Y4 c0 c1 B3
  have c0 := X4.c0
  have c1 := X4.c1
  go_wp2_with fail
  refine (fit_at t z x c S5 A5 E5 P5 true rfl (by have := hz.out; omega) (by have := hx.out; omega) rfl (by have := hx.out; have := hy.out; have := hz.out; have := ho.out; omega) (by have := hx.out; have := hy.out; have := hz.out; have := ho.out; omega) (by have := hx.out; have := hy.out; have := hz.out; have := ho.out; omega) (by have := hx.out; have := hy.out; have := hz.out; have := ho.out; omega) f5S.out f5A.out f5E.out f5P.out f5B.out _).mono ?_
  rintro _ w11 ⟨rfl, b5⟩
  have Y5 := Box2.new w11 25 (.int .u64 (A5 : Int)) (.int .u64 (E5 : Int))
  have B5 := below_call (below_call B4 b5) (below_new2 w11 (.cells #[.int .u64 (A5 : Int), .int .u64 (E5 : Int)] 25))
  clear b5
  go_upto_region 16 with fail
  generalize w11.alloc (.cells #[.int .u64 (A5 : Int), .int .u64 (E5 : Int)] 25) = w12 at *
  generalize w11.heap.size = g5 at *
  have HB := Lib.hid B5
  clear X4 Y5 c0 c1 B4 B5
  go_wp2
  go_ret
  exact ⟨rfl, HB.out⟩
set_option maxHeartbeats 4000000 in
theorem core_p0n (t l a b k j x y z o c d : Nat) (ht : t < 4294967296) (hl : l < 65536) (ha : a < 65536) (hb : b < 65536) (hk : k < 256) (hj : j < 256) (hx : Hid (a + 1 = x)) (hy : Hid (b + 1 = y)) (hz : Hid (t + l = z)) (ho : Hid (o = 0))
    (ec : IntKind.u64.wrap (2 ^ (k % 13)) = c) (ed : IntKind.u64.wrap (2 ^ (j % 13)) = d) (lc : c ≤ 4096) (ld : d ≤ 4096) (hm : k % 13 < j % 13)
    (z1 : Nat) (hz1 : z1 < 18446744073709551616)
    (S4 A4 E4 P4 S5 A5 E5 P5 : Nat) (too : Bool)
    (f1S : Hid (M.fitS t z x 1 = t)) (f1A : Hid (M.fitA t z x 1 = z1)) (f1E : Hid (M.fitE t z x 1 = z)) (f1P : Hid (M.fitP t z x 1 = 0)) (f1B : Hid (M.fitB t z x 1 = true))
    (f2S : Hid (M.fitS z1 z y 1 = o)) (f2A : Hid (M.fitA z1 z y 1 = o)) (f2E : Hid (M.fitE z1 z y 1 = o)) (f2P : Hid (M.fitP z1 z y 1 = o)) (f2B : Hid (M.fitB z1 z y 1 = false))
    (f3S : Hid (M.fitS t z (x + y) 1 = o)) (f3A : Hid (M.fitA t z (x + y) 1 = o)) (f3E : Hid (M.fitE t z (x + y) 1 = o)) (f3P : Hid (M.fitP t z (x + y) 1 = o)) (f3B : Hid (M.fitB t z (x + y) 1 = false))
    (f4S : Hid (M.fitS t z x d = S4)) (f4A : Hid (M.fitA t z x d = A4)) (f4E : Hid (M.fitE t z x d = E4)) (f4P : Hid (M.fitP t z x d = P4)) (f4B : Hid (M.fitB t z x d = false))
    (f5S : Hid (M.fitS t z x c = S5)) (f5A : Hid (M.fitA t z x c = A5)) (f5E : Hid (M.fitE t z x c = E5)) (f5P : Hid (M.fitP t z x c = P5)) (f5B : Hid (M.fitB t z x c = too))
    (w : World) : Calls Try.prog 7 #[.int .u32 t, .int .u16 l, .int .u16 a, .int .u16 b, .int .u8 k, .int .u8 j] w fun e w' => e = .returned (.bool true) ∧ Below w.heap.size w w' := by
  go_enter Try.func7, Try.ntmps7
  go_wp2_with fail
  refine (awake_any _).mono ?_
  rintro _ w1 ⟨rfl, b0⟩
  have Y0 := Box2.new w1 25 (.int .u64 t) (.int .u64 ((t : Int) + l))
  have B0 := below_call b0 (below_new2 w1 (.cells #[.int .u64 t, .int .u64 ((t : Int) + l)] 25))
  clear b0
  go_upto_region 5 with fail
  generalize w1.alloc (.cells #[.int .u64 t, .int .u64 ((t : Int) + l)] 25) = w2 at *
  generalize w1.heap.size = g at *
  have X0 := Y0
  clear Y0
  have c0 := X0.c0
  have c1 := X0.c1
  go_wp2_with fail
  refine (fit_at t z x 1 t z1 z 0 true rfl (by have := hz.out; omega) (by have := hx.out; omega) rfl (by have := hx.out; have := hy.out; have := hz.out; have := ho.out; omega) (by have := hx.out; have := hy.out; have := hz.out; have := ho.out; omega) (by have := hx.out; have := hy.out; have := hz.out; have := ho.out; omega) (by have := hx.out; have := hy.out; have := hz.out; have := ho.out; omega) f1S.out f1A.out f1E.out f1P.out f1B.out _).mono ?_
  rintro _ w3 ⟨rfl, b1⟩
  have X1 := (X0.below b1).below (below_new2 w3 (.cells #[.int .u64 (z1 : Int), .int .u64 (z : Int)] 25))
  have Y1 := Box2.new w3 25 (.int .u64 (z1 : Int)) (.int .u64 (z : Int))
  have B1 := below_call (below_call B0 b1) (below_new2 w3 (.cells #[.int .u64 (z1 : Int), .int .u64 (z : Int)] 25))
  clear b1
  go_upto_region 8 with fail
  generalize w3.alloc (.cells #[.int .u64 (z1 : Int), .int .u64 (z : Int)] 25) = w4 at *
  generalize w3.heap.size = g1 at *
  clear X0 c0 c1 B0
  have c0 := X1.c0
  have c1 := X1.c1
  have d0 := Y1.c0
  have d1 := Y1.c1
  go_wp2_with fail
  refine (fit_at z1 z y 1 o o o o false rfl rfl (by have := hy.out; omega) rfl (by have := hx.out; have := hy.out; have := hz.out; have := ho.out; omega) (by have := hx.out; have := hy.out; have := hz.out; have := ho.out; omega) (by have := hx.out; have := hy.out; have := hz.out; have := ho.out; omega) (by have := hx.out; have := hy.out; have := hz.out; have := ho.out; omega) f2S.out f2A.out f2E.out f2P.out f2B.out _).mono ?_
  rintro _ w5 ⟨rfl, b2⟩
  have X2 := (X1.below b2).below (below_new2 w5 (.cells #[.int .u64 (o : Int), .int .u64 (o : Int)] 25))
  have Y2 := Box2.new w5 25 (.int .u64 (o : Int)) (.int .u64 (o : Int))
  have B2 := below_call (below_call B1 b2) (below_new2 w5 (.cells #[.int .u64 (o : Int), .int .u64 (o : Int)] 25))
  clear b2
  go_upto_region 9 with fail
  generalize w5.alloc (.cells #[.int .u64 (o : Int), .int .u64 (o : Int)] 25) = w6 at *
  generalize w5.heap.size = g2 at *
  clear X1 Y1 c0 c1 d0 d1 B1
  have c0 := X2.c0
  have c1 := X2.c1
  go_wp2_with fail
  refine (fit_at t z (x + y) 1 o o o o false rfl (by have := hz.out; omega) (by have := hx.out; have := hy.out; have := hz.out; have := ho.out; omega) rfl (by have := hx.out; have := hy.out; have := hz.out; have := ho.out; omega) (by have := hx.out; have := hy.out; have := hz.out; have := ho.out; omega) (by have := hx.out; have := hy.out; have := hz.out; have := ho.out; omega) (by have := hx.out; have := hy.out; have := hz.out; have := ho.out; omega) f3S.out f3A.out f3E.out f3P.out f3B.out _).mono ?_
  rintro _ w7 ⟨rfl, b3⟩
  have X3 := (X2.below b3).below (below_new2 w7 (.cells #[.int .u64 (o : Int), .int .u64 (o : Int)] 25))
  have Z3 := (Y2.below b3).below (below_new2 w7 (.cells #[.int .u64 (o : Int), .int .u64 (o : Int)] 25))
  have Y3 := Box2.new w7 25 (.int .u64 (o : Int)) (.int .u64 (o : Int))
  have B3 := below_call (below_call B2 b3) (below_new2 w7 (.cells #[.int .u64 (o : Int), .int .u64 (o : Int)] 25))
  clear b3
  go_upto_region 10 with fail
  generalize w7.alloc (.cells #[.int .u64 (o : Int), .int .u64 (o : Int)] 25) = w8 at *
  generalize w7.heap.size = g3 at *
  clear X2 Y2 c0 c1 B2
  have c0 := X3.c0
  have c1 := X3.c1
  have d0 := Z3.c0
  have d1 := Z3.c1
  have k0 := Y3.c0
  have k1 := Y3.c1
  go_upto_region 12 with fail
  clear Z3 Y3 d0 d1 k0 k1
  go_wp2_with fail
  refine (fit_at t z x d S4 A4 E4 P4 false rfl (by have := hz.out; omega) (by have := hx.out; omega) rfl (by have := hx.out; have := hy.out; have := hz.out; have := ho.out; omega) (by have := hx.out; have := hy.out; have := hz.out; have := ho.out; omega) (by have := hx.out; have := hy.out; have := hz.out; have := ho.out; omega) (by have := hx.out; have := hy.out; have := hz.out; have := ho.out; omega) f4S.out f4A.out f4E.out f4P.out f4B.out _).mono ?_
  rintro _ w9 ⟨rfl, b4⟩
  have X4 := (X3.below b4).below (below_new2 w9 (.cells #[.int .u64 (A4 : Int), .int .u64 (E4 : Int)] 25))
  have Y4 := Box2.new w9 25 (.int .u64 (A4 : Int)) (.int .u64 (E4 : Int))
  have B4 := below_call (below_call B3 b4) (below_new2 w9 (.cells #[.int .u64 (A4 : Int), .int .u64 (E4 : Int)] 25))
  clear b4
  go_upto_region 15 with fail
  generalize w9.alloc (.cells #[.int .u64 (A4 : Int), .int .u64 (E4 : Int)] 25) = w10 at *
  generalize w9.heap.size = g4 at *
  clear X3 Y4 c0 c1 B3
  have c0 := X4.c0
  have c1 := X4.c1
  go_wp2_with fail
  refine (fit_at t z x c S5 A5 E5 P5 too rfl (by have := hz.out; omega) (by have := hx.out; omega) rfl (by have := hx.out; have := hy.out; have := hz.out; have := ho.out; omega) (by have := hx.out; have := hy.out; have := hz.out; have := ho.out; omega) (by have := hx.out; have := hy.out; have := hz.out; have := ho.out; omega) (by have := hx.out; have := hy.out; have := hz.out; have := ho.out; omega) f5S.out f5A.out f5E.out f5P.out f5B.out _).mono ?_
  rintro _ w11 ⟨rfl, b5⟩
  have Y5 := Box2.new w11 25 (.int .u64 (A5 : Int)) (.int .u64 (E5 : Int))
  have B5 := below_call (below_call B4 b5) (below_new2 w11 (.cells #[.int .u64 (A5 : Int), .int .u64 (E5 : Int)] 25))
  clear b5
  go_upto_region 16 with fail
  generalize w11.alloc (.cells #[.int .u64 (A5 : Int), .int .u64 (E5 : Int)] 25) = w12 at *
  generalize w11.heap.size = g5 at *
  have HB := Lib.hid B5
  clear X4 Y5 c0 c1 B4 B5
  go_wp2
  go_ret
  exact ⟨rfl, HB.out⟩
set_option maxHeartbeats 4000000 in
theorem core_p1y (t l a b k j x y z o c d : Nat) (ht : t < 4294967296) (hl : l < 65536) (ha : a < 65536) (hb : b < 65536) (hk : k < 256) (hj : j < 256) (hx : Hid (a + 1 = x)) (hy : Hid (b + 1 = y)) (hz : Hid (t + l = z)) (ho : Hid (o = 0))
    (ec : IntKind.u64.wrap (2 ^ (k % 13)) = c) (ed : IntKind.u64.wrap (2 ^ (j % 13)) = d) (lc : c ≤ 4096) (ld : d ≤ 4096) (hm : j % 13 < k % 13)
    (z1 : Nat) (hz1 : z1 < 18446744073709551616)
    (S4 A4 E4 P4 S5 A5 E5 P5 : Nat) (hS : S5 ≤ S4)
    (f1S : Hid (M.fitS t z x 1 = t)) (f1A : Hid (M.fitA t z x 1 = z1)) (f1E : Hid (M.fitE t z x 1 = z)) (f1P : Hid (M.fitP t z x 1 = 0)) (f1B : Hid (M.fitB t z x 1 = true))
    (f2S : Hid (M.fitS z1 z y 1 = o)) (f2A : Hid (M.fitA z1 z y 1 = o)) (f2E : Hid (M.fitE z1 z y 1 = o)) (f2P : Hid (M.fitP z1 z y 1 = o)) (f2B : Hid (M.fitB z1 z y 1 = false))
    (f3S : Hid (M.fitS t z (x + y) 1 = o)) (f3A : Hid (M.fitA t z (x + y) 1 = o)) (f3E : Hid (M.fitE t z (x + y) 1 = o)) (f3P : Hid (M.fitP t z (x + y) 1 = o)) (f3B : Hid (M.fitB t z (x + y) 1 = false))
    (f4S : Hid (M.fitS t z x c = S4)) (f4A : Hid (M.fitA t z x c = A4)) (f4E : Hid (M.fitE t z x c = E4)) (f4P : Hid (M.fitP t z x c = P4)) (f4B : Hid (M.fitB t z x c = true))
    (f5S : Hid (M.fitS t z x d = S5)) (f5A : Hid (M.fitA t z x d = A5)) (f5E : Hid (M.fitE t z x d = E5)) (f5P : Hid (M.fitP t z x d = P5)) (f5B : Hid (M.fitB t z x d = true))
    (w : World) : Calls Try.prog 7 #[.int .u32 t, .int .u16 l, .int .u16 a, .int .u16 b, .int .u8 k, .int .u8 j] w fun e w' => e = .returned (.bool true) ∧ Below w.heap.size w w' := by
  have zs : decide ((S5 : Int) ≤ S4) = true := decide_eq_true (by omega)
  go_enter Try.func7, Try.ntmps7
  go_wp2_with fail
  refine (awake_any _).mono ?_
  rintro _ w1 ⟨rfl, b0⟩
  have Y0 := Box2.new w1 25 (.int .u64 t) (.int .u64 ((t : Int) + l))
  have B0 := below_call b0 (below_new2 w1 (.cells #[.int .u64 t, .int .u64 ((t : Int) + l)] 25))
  clear b0
  go_upto_region 5 with fail
  generalize w1.alloc (.cells #[.int .u64 t, .int .u64 ((t : Int) + l)] 25) = w2 at *
  generalize w1.heap.size = g at *
  have X0 := Y0
  clear Y0
  have c0 := X0.c0
  have c1 := X0.c1
  go_wp2_with fail
  refine (fit_at t z x 1 t z1 z 0 true rfl (by have := hz.out; omega) (by have := hx.out; omega) rfl (by have := hx.out; have := hy.out; have := hz.out; have := ho.out; omega) (by have := hx.out; have := hy.out; have := hz.out; have := ho.out; omega) (by have := hx.out; have := hy.out; have := hz.out; have := ho.out; omega) (by have := hx.out; have := hy.out; have := hz.out; have := ho.out; omega) f1S.out f1A.out f1E.out f1P.out f1B.out _).mono ?_
  rintro _ w3 ⟨rfl, b1⟩
  have X1 := (X0.below b1).below (below_new2 w3 (.cells #[.int .u64 (z1 : Int), .int .u64 (z : Int)] 25))
  have Y1 := Box2.new w3 25 (.int .u64 (z1 : Int)) (.int .u64 (z : Int))
  have B1 := below_call (below_call B0 b1) (below_new2 w3 (.cells #[.int .u64 (z1 : Int), .int .u64 (z : Int)] 25))
  clear b1
  go_upto_region 8 with fail
  generalize w3.alloc (.cells #[.int .u64 (z1 : Int), .int .u64 (z : Int)] 25) = w4 at *
  generalize w3.heap.size = g1 at *
  clear X0 c0 c1 B0
  have c0 := X1.c0
  have c1 := X1.c1
  have d0 := Y1.c0
  have d1 := Y1.c1
  go_wp2_with fail
  refine (fit_at z1 z y 1 o o o o false rfl rfl (by have := hy.out; omega) rfl (by have := hx.out; have := hy.out; have := hz.out; have := ho.out; omega) (by have := hx.out; have := hy.out; have := hz.out; have := ho.out; omega) (by have := hx.out; have := hy.out; have := hz.out; have := ho.out; omega) (by have := hx.out; have := hy.out; have := hz.out; have := ho.out; omega) f2S.out f2A.out f2E.out f2P.out f2B.out _).mono ?_
  rintro _ w5 ⟨rfl, b2⟩
  have X2 := (X1.below b2).below (below_new2 w5 (.cells #[.int .u64 (o : Int), .int .u64 (o : Int)] 25))
  have Y2 := Box2.new w5 25 (.int .u64 (o : Int)) (.int .u64 (o : Int))
  have B2 := below_call (below_call B1 b2) (below_new2 w5 (.cells #[.int .u64 (o : Int), .int .u64 (o : Int)] 25))
  clear b2
  go_upto_region 9 with fail
  generalize w5.alloc (.cells #[.int .u64 (o : Int), .int .u64 (o : Int)] 25) = w6 at *
  generalize w5.heap.size = g2 at *
  clear X1 Y1 c0 c1 d0 d1 B1
  have c0 := X2.c0
  have c1 := X2.c1
  go_wp2_with fail
  refine (fit_at t z (x + y) 1 o o o o false rfl (by have := hz.out; omega) (by have := hx.out; have := hy.out; have := hz.out; have := ho.out; omega) rfl (by have := hx.out; have := hy.out; have := hz.out; have := ho.out; omega) (by have := hx.out; have := hy.out; have := hz.out; have := ho.out; omega) (by have := hx.out; have := hy.out; have := hz.out; have := ho.out; omega) (by have := hx.out; have := hy.out; have := hz.out; have := ho.out; omega) f3S.out f3A.out f3E.out f3P.out f3B.out _).mono ?_
  rintro _ w7 ⟨rfl, b3⟩
  have X3 := (X2.below b3).below (below_new2 w7 (.cells #[.int .u64 (o : Int), .int .u64 (o : Int)] 25))
  have Z3 := (Y2.below b3).below (below_new2 w7 (.cells #[.int .u64 (o : Int), .int .u64 (o : Int)] 25))
  have Y3 := Box2.new w7 25 (.int .u64 (o : Int)) (.int .u64 (o : Int))
  have B3 := below_call (below_call B2 b3) (below_new2 w7 (.cells #[.int .u64 (o : Int), .int .u64 (o : Int)] 25))
  clear b3
  go_upto_region 10 with fail
  generalize w7.alloc (.cells #[.int .u64 (o : Int), .int .u64 (o : Int)] 25) = w8 at *
  generalize w7.heap.size = g3 at *
  clear X2 Y2 c0 c1 B2
  have c0 := X3.c0
  have c1 := X3.c1
  have d0 := Z3.c0
  have d1 := Z3.c1
  have k0 := Y3.c0
  have k1 := Y3.c1
  go_upto_region 12 with fail
  clear Z3 Y3 d0 d1 k0 k1
  go_wp2_with fail
  refine (fit_at t z x c S4 A4 E4 P4 true rfl (by have := hz.out; omega) (by have := hx.out; omega) rfl (by have := hx.out; have := hy.out; have := hz.out; have := ho.out; omega) (by have := hx.out; have := hy.out; have := hz.out; have := ho.out; omega) (by have := hx.out; have := hy.out; have := hz.out; have := ho.out; omega) (by have := hx.out; have := hy.out; have := hz.out; have := ho.out; omega) f4S.out f4A.out f4E.out f4P.out f4B.out _).mono ?_
  rintro _ w9 ⟨rfl, b4⟩
  have X4 := (X3.below b4).below (below_new2 w9 (.cells #[.int .u64 (A4 : Int), .int .u64 (E4 : Int)] 25))
  have Y4 := Box2.new w9 25 (.int .u64 (A4 : Int)) (.int .u64 (E4 : Int))
  have B4 := below_call (below_call B3 b4) (below_new2 w9 (.cells #[.int .u64 (A4 : Int), .int .u64 (E4 : Int)] 25))
  clear b4
  go_upto_region 15 with fail
  generalize w9.alloc (.cells #[.int .u64 (A4 : Int), .int .u64 (E4 : Int)] 25) = w10 at *
  generalize w9.heap.size = g4 at *
  clear X3 Y4 c0 c1 B3
  have c0 := X4.c0
  have c1 := X4.c1
  go_wp2_with fail
  refine (fit_at t z x d S5 A5 E5 P5 true rfl (by have := hz.out; omega) (by have := hx.out; omega) rfl (by have := hx.out; have := hy.out; have := hz.out; have := ho.out; omega) (by have := hx.out; have := hy.out; have := hz.out; have := ho.out; omega) (by have := hx.out; have := hy.out; have := hz.out; have := ho.out; omega) (by have := hx.out; have := hy.out; have := hz.out; have := ho.out; omega) f5S.out f5A.out f5E.out f5P.out f5B.out _).mono ?_
  rintro _ w11 ⟨rfl, b5⟩
  have Y5 := Box2.new w11 25 (.int .u64 (A5 : Int)) (.int .u64 (E5 : Int))
  have B5 := below_call (below_call B4 b5) (below_new2 w11 (.cells #[.int .u64 (A5 : Int), .int .u64 (E5 : Int)] 25))
  clear b5
  go_upto_region 16 with fail
  generalize w11.alloc (.cells #[.int .u64 (A5 : Int), .int .u64 (E5 : Int)] 25) = w12 at *
  generalize w11.heap.size = g5 at *
  have HB := Lib.hid B5
  clear X4 Y5 c0 c1 B4 B5
  go_wp2
  go_ret
  exact ⟨rfl, HB.out⟩
set_option maxHeartbeats 4000000 in
theorem core_p1n (t l a b k j x y z o c d : Nat) (ht : t < 4294967296) (hl : l < 65536) (ha : a < 65536) (hb : b < 65536) (hk : k < 256) (hj : j < 256) (hx : Hid (a + 1 = x)) (hy : Hid (b + 1 = y)) (hz : Hid (t + l = z)) (ho : Hid (o = 0))
    (ec : IntKind.u64.wrap (2 ^ (k % 13)) = c) (ed : IntKind.u64.wrap (2 ^ (j % 13)) = d) (lc : c ≤ 4096) (ld : d ≤ 4096) (hm : j % 13 < k % 13)
    (z1 : Nat) (hz1 : z1 < 18446744073709551616)
    (S4 A4 E4 P4 S5 A5 E5 P5 : Nat) (too : Bool)
    (f1S : Hid (M.fitS t z x 1 = t)) (f1A : Hid (M.fitA t z x 1 = z1)) (f1E : Hid (M.fitE t z x 1 = z)) (f1P : Hid (M.fitP t z x 1 = 0)) (f1B : Hid (M.fitB t z x 1 = true))
    (f2S : Hid (M.fitS z1 z y 1 = o)) (f2A : Hid (M.fitA z1 z y 1 = o)) (f2E : Hid (M.fitE z1 z y 1 = o)) (f2P : Hid (M.fitP z1 z y 1 = o)) (f2B : Hid (M.fitB z1 z y 1 = false))
    (f3S : Hid (M.fitS t z (x + y) 1 = o)) (f3A : Hid (M.fitA t z (x + y) 1 = o)) (f3E : Hid (M.fitE t z (x + y) 1 = o)) (f3P : Hid (M.fitP t z (x + y) 1 = o)) (f3B : Hid (M.fitB t z (x + y) 1 = false))
    (f4S : Hid (M.fitS t z x c = S4)) (f4A : Hid (M.fitA t z x c = A4)) (f4E : Hid (M.fitE t z x c = E4)) (f4P : Hid (M.fitP t z x c = P4)) (f4B : Hid (M.fitB t z x c = false))
    (f5S : Hid (M.fitS t z x d = S5)) (f5A : Hid (M.fitA t z x d = A5)) (f5E : Hid (M.fitE t z x d = E5)) (f5P : Hid (M.fitP t z x d = P5)) (f5B : Hid (M.fitB t z x d = too))
    (w : World) : Calls Try.prog 7 #[.int .u32 t, .int .u16 l, .int .u16 a, .int .u16 b, .int .u8 k, .int .u8 j] w fun e w' => e = .returned (.bool true) ∧ Below w.heap.size w w' := by
  go_enter Try.func7, Try.ntmps7
  go_wp2_with fail
  refine (awake_any _).mono ?_
  rintro _ w1 ⟨rfl, b0⟩
  have Y0 := Box2.new w1 25 (.int .u64 t) (.int .u64 ((t : Int) + l))
  have B0 := below_call b0 (below_new2 w1 (.cells #[.int .u64 t, .int .u64 ((t : Int) + l)] 25))
  clear b0
  go_upto_region 5 with fail
  generalize w1.alloc (.cells #[.int .u64 t, .int .u64 ((t : Int) + l)] 25) = w2 at *
  generalize w1.heap.size = g at *
  have X0 := Y0
  clear Y0
  have c0 := X0.c0
  have c1 := X0.c1
  go_wp2_with fail
  refine (fit_at t z x 1 t z1 z 0 true rfl (by have := hz.out; omega) (by have := hx.out; omega) rfl (by have := hx.out; have := hy.out; have := hz.out; have := ho.out; omega) (by have := hx.out; have := hy.out; have := hz.out; have := ho.out; omega) (by have := hx.out; have := hy.out; have := hz.out; have := ho.out; omega) (by have := hx.out; have := hy.out; have := hz.out; have := ho.out; omega) f1S.out f1A.out f1E.out f1P.out f1B.out _).mono ?_
  rintro _ w3 ⟨rfl, b1⟩
  have X1 := (X0.below b1).below (below_new2 w3 (.cells #[.int .u64 (z1 : Int), .int .u64 (z : Int)] 25))
  have Y1 := Box2.new w3 25 (.int .u64 (z1 : Int)) (.int .u64 (z : Int))
  have B1 := below_call (below_call B0 b1) (below_new2 w3 (.cells #[.int .u64 (z1 : Int), .int .u64 (z : Int)] 25))
  clear b1
  go_upto_region 8 with fail
  generalize w3.alloc (.cells #[.int .u64 (z1 : Int), .int .u64 (z : Int)] 25) = w4 at *
  generalize w3.heap.size = g1 at *
  clear X0 c0 c1 B0
  have c0 := X1.c0
  have c1 := X1.c1
  have d0 := Y1.c0
  have d1 := Y1.c1
  go_wp2_with fail
  refine (fit_at z1 z y 1 o o o o false rfl rfl (by have := hy.out; omega) rfl (by have := hx.out; have := hy.out; have := hz.out; have := ho.out; omega) (by have := hx.out; have := hy.out; have := hz.out; have := ho.out; omega) (by have := hx.out; have := hy.out; have := hz.out; have := ho.out; omega) (by have := hx.out; have := hy.out; have := hz.out; have := ho.out; omega) f2S.out f2A.out f2E.out f2P.out f2B.out _).mono ?_
  rintro _ w5 ⟨rfl, b2⟩
  have X2 := (X1.below b2).below (below_new2 w5 (.cells #[.int .u64 (o : Int), .int .u64 (o : Int)] 25))
  have Y2 := Box2.new w5 25 (.int .u64 (o : Int)) (.int .u64 (o : Int))
  have B2 := below_call (below_call B1 b2) (below_new2 w5 (.cells #[.int .u64 (o : Int), .int .u64 (o : Int)] 25))
  clear b2
  go_upto_region 9 with fail
  generalize w5.alloc (.cells #[.int .u64 (o : Int), .int .u64 (o : Int)] 25) = w6 at *
  generalize w5.heap.size = g2 at *
  clear X1 Y1 c0 c1 d0 d1 B1
  have c0 := X2.c0
  have c1 := X2.c1
  go_wp2_with fail
  refine (fit_at t z (x + y) 1 o o o o false rfl (by have := hz.out; omega) (by have := hx.out; have := hy.out; have := hz.out; have := ho.out; omega) rfl (by have := hx.out; have := hy.out; have := hz.out; have := ho.out; omega) (by have := hx.out; have := hy.out; have := hz.out; have := ho.out; omega) (by have := hx.out; have := hy.out; have := hz.out; have := ho.out; omega) (by have := hx.out; have := hy.out; have := hz.out; have := ho.out; omega) f3S.out f3A.out f3E.out f3P.out f3B.out _).mono ?_
  rintro _ w7 ⟨rfl, b3⟩
  have X3 := (X2.below b3).below (below_new2 w7 (.cells #[.int .u64 (o : Int), .int .u64 (o : Int)] 25))
  have Z3 := (Y2.below b3).below (below_new2 w7 (.cells #[.int .u64 (o : Int), .int .u64 (o : Int)] 25))
  have Y3 := Box2.new w7 25 (.int .u64 (o : Int)) (.int .u64 (o : Int))
  have B3 := below_call (below_call B2 b3) (below_new2 w7 (.cells #[.int .u64 (o : Int), .int .u64 (o : Int)] 25))
  clear b3
  go_upto_region 10 with fail
  generalize w7.alloc (.cells #[.int .u64 (o : Int), .int .u64 (o : Int)] 25) = w8 at *
  generalize w7.heap.size = g3 at *
  clear X2 Y2 c0 c1 B2
  have c0 := X3.c0
  have c1 := X3.c1
  have d0 := Z3.c0
  have d1 := Z3.c1
  have k0 := Y3.c0
  have k1 := Y3.c1
  go_upto_region 12 with fail
  clear Z3 Y3 d0 d1 k0 k1
  go_wp2_with fail
  refine (fit_at t z x c S4 A4 E4 P4 false rfl (by have := hz.out; omega) (by have := hx.out; omega) rfl (by have := hx.out; have := hy.out; have := hz.out; have := ho.out; omega) (by have := hx.out; have := hy.out; have := hz.out; have := ho.out; omega) (by have := hx.out; have := hy.out; have := hz.out; have := ho.out; omega) (by have := hx.out; have := hy.out; have := hz.out; have := ho.out; omega) f4S.out f4A.out f4E.out f4P.out f4B.out _).mono ?_
  rintro _ w9 ⟨rfl, b4⟩
  have X4 := (X3.below b4).below (below_new2 w9 (.cells #[.int .u64 (A4 : Int), .int .u64 (E4 : Int)] 25))
  have Y4 := Box2.new w9 25 (.int .u64 (A4 : Int)) (.int .u64 (E4 : Int))
  have B4 := below_call (below_call B3 b4) (below_new2 w9 (.cells #[.int .u64 (A4 : Int), .int .u64 (E4 : Int)] 25))
  clear b4
  go_upto_region 15 with fail
  generalize w9.alloc (.cells #[.int .u64 (A4 : Int), .int .u64 (E4 : Int)] 25) = w10 at *
  generalize w9.heap.size = g4 at *
  clear X3 Y4 c0 c1 B3
  have c0 := X4.c0
  have c1 := X4.c1
  go_wp2_with fail
  refine (fit_at t z x d S5 A5 E5 P5 too rfl (by have := hz.out; omega) (by have := hx.out; omega) rfl (by have := hx.out; have := hy.out; have := hz.out; have := ho.out; omega) (by have := hx.out; have := hy.out; have := hz.out; have := ho.out; omega) (by have := hx.out; have := hy.out; have := hz.out; have := ho.out; omega) (by have := hx.out; have := hy.out; have := hz.out; have := ho.out; omega) f5S.out f5A.out f5E.out f5P.out f5B.out _).mono ?_
  rintro _ w11 ⟨rfl, b5⟩
  have Y5 := Box2.new w11 25 (.int .u64 (A5 : Int)) (.int .u64 (E5 : Int))
  have B5 := below_call (below_call B4 b5) (below_new2 w11 (.cells #[.int .u64 (A5 : Int), .int .u64 (E5 : Int)] 25))
  clear b5
  go_upto_region 16 with fail
  generalize w11.alloc (.cells #[.int .u64 (A5 : Int), .int .u64 (E5 : Int)] 25) = w12 at *
  generalize w11.heap.size = g5 at *
  have HB := Lib.hid B5
  clear X4 Y5 c0 c1 B4 B5
  go_wp2
  go_ret
  exact ⟨rfl, HB.out⟩
set_option maxHeartbeats 4000000 in
theorem core_p2y (t l a b k j x y z o c d : Nat) (ht : t < 4294967296) (hl : l < 65536) (ha : a < 65536) (hb : b < 65536) (hk : k < 256) (hj : j < 256) (hx : Hid (a + 1 = x)) (hy : Hid (b + 1 = y)) (hz : Hid (t + l = z)) (ho : Hid (o = 0))
    (ec : IntKind.u64.wrap (2 ^ (k % 13)) = c) (ed : IntKind.u64.wrap (2 ^ (j % 13)) = d) (lc : c ≤ 4096) (ld : d ≤ 4096) (hm : k % 13 ≤ j % 13) (hm2 : j % 13 ≤ k % 13)
    (z1 : Nat) (hz1 : z1 < 18446744073709551616)
    (S4 A4 E4 P4 S5 A5 E5 P5 : Nat) (hS : S5 ≤ S4)
    (f1S : Hid (M.fitS t z x 1 = t)) (f1A : Hid (M.fitA t z x 1 = z1)) (f1E : Hid (M.fitE t z x 1 = z)) (f1P : Hid (M.fitP t z x 1 = 0)) (f1B : Hid (M.fitB t z x 1 = true))
    (f2S : Hid (M.fitS z1 z y 1 = o)) (f2A : Hid (M.fitA z1 z y 1 = o)) (f2E : Hid (M.fitE z1 z y 1 = o)) (f2P : Hid (M.fitP z1 z y 1 = o)) (f2B : Hid (M.fitB z1 z y 1 = false))
    (f3S : Hid (M.fitS t z (x + y) 1 = o)) (f3A : Hid (M.fitA t z (x + y) 1 = o)) (f3E : Hid (M.fitE t z (x + y) 1 = o)) (f3P : Hid (M.fitP t z (x + y) 1 = o)) (f3B : Hid (M.fitB t z (x + y) 1 = false))
    (f4S : Hid (M.fitS t z x c = S4)) (f4A : Hid (M.fitA t z x c = A4)) (f4E : Hid (M.fitE t z x c = E4)) (f4P : Hid (M.fitP t z x c = P4)) (f4B : Hid (M.fitB t z x c = true))
    (f5S : Hid (M.fitS t z x c = S5)) (f5A : Hid (M.fitA t z x c = A5)) (f5E : Hid (M.fitE t z x c = E5)) (f5P : Hid (M.fitP t z x c = P5)) (f5B : Hid (M.fitB t z x c = true))
    (w : World) : Calls Try.prog 7 #[.int .u32 t, .int .u16 l, .int .u16 a, .int .u16 b, .int .u8 k, .int .u8 j] w fun e w' => e = .returned (.bool true) ∧ Below w.heap.size w w' := by
  have zs : decide ((S5 : Int) ≤ S4) = true := decide_eq_true (by omega)
  go_enter Try.func7, Try.ntmps7
  go_wp2_with fail
  refine (awake_any _).mono ?_
  rintro _ w1 ⟨rfl, b0⟩
  have Y0 := Box2.new w1 25 (.int .u64 t) (.int .u64 ((t : Int) + l))
  have B0 := below_call b0 (below_new2 w1 (.cells #[.int .u64 t, .int .u64 ((t : Int) + l)] 25))
  clear b0
  go_upto_region 5 with fail
  generalize w1.alloc (.cells #[.int .u64 t, .int .u64 ((t : Int) + l)] 25) = w2 at *
  generalize w1.heap.size = g at *
  have X0 := Y0
  clear Y0
  have c0 := X0.c0
  have c1 := X0.c1
  go_wp2_with fail
  refine (fit_at t z x 1 t z1 z 0 true rfl (by have := hz.out; omega) (by have := hx.out; omega) rfl (by have := hx.out; have := hy.out; have := hz.out; have := ho.out; omega) (by have := hx.out; have := hy.out; have := hz.out; have := ho.out; omega) (by have := hx.out; have := hy.out; have := hz.out; have := ho.out; omega) (by have := hx.out; have := hy.out; have := hz.out; have := ho.out; omega) f1S.out f1A.out f1E.out f1P.out f1B.out _).mono ?_
  rintro _ w3 ⟨rfl, b1⟩
  have X1 := (X0.below b1).below (below_new2 w3 (.cells #[.int .u64 (z1 : Int), .int .u64 (z : Int)] 25))
  have Y1 := Box2.new w3 25 (.int .u64 (z1 : Int)) (.int .u64 (z : Int))
  have B1 := below_call (below_call B0 b1) (below_new2 w3 (.cells #[.int .u64 (z1 : Int), .int .u64 (z : Int)] 25))
  clear b1
  go_upto_region 8 with fail
  generalize w3.alloc (.cells #[.int .u64 (z1 : Int), .int .u64 (z : Int)] 25) = w4 at *
  generalize w3.heap.size = g1 at *
  clear X0 c0 c1 B0
  have c0 := X1.c0
  have c1 := X1.c1
  have d0 := Y1.c0
  have d1 := Y1.c1
  go_wp2_with fail
  refine (fit_at z1 z y 1 o o o o false rfl rfl (by have := hy.out; omega) rfl (by have := hx.out; have := hy.out; have := hz.out; have := ho.out; omega) (by have := hx.out; have := hy.out; have := hz.out; have := ho.out; omega) (by have := hx.out; have := hy.out; have := hz.out; have := ho.out; omega) (by have := hx.out; have := hy.out; have := hz.out; have := ho.out; omega) f2S.out f2A.out f2E.out f2P.out f2B.out _).mono ?_
  rintro _ w5 ⟨rfl, b2⟩
  have X2 := (X1.below b2).below (below_new2 w5 (.cells #[.int .u64 (o : Int), .int .u64 (o : Int)] 25))
  have Y2 := Box2.new w5 25 (.int .u64 (o : Int)) (.int .u64 (o : Int))
  have B2 := below_call (below_call B1 b2) (below_new2 w5 (.cells #[.int .u64 (o : Int), .int .u64 (o : Int)] 25))
  clear b2
  go_upto_region 9 with fail
  generalize w5.alloc (.cells #[.int .u64 (o : Int), .int .u64 (o : Int)] 25) = w6 at *
  generalize w5.heap.size = g2 at *
  clear X1 Y1 c0 c1 d0 d1 B1
  have c0 := X2.c0
  have c1 := X2.c1
  go_wp2_with fail
  refine (fit_at t z (x + y) 1 o o o o false rfl (by have := hz.out; omega) (by have := hx.out; have := hy.out; have := hz.out; have := ho.out; omega) rfl (by have := hx.out; have := hy.out; have := hz.out; have := ho.out; omega) (by have := hx.out; have := hy.out; have := hz.out; have := ho.out; omega) (by have := hx.out; have := hy.out; have := hz.out; have := ho.out; omega) (by have := hx.out; have := hy.out; have := hz.out; have := ho.out; omega) f3S.out f3A.out f3E.out f3P.out f3B.out _).mono ?_
  rintro _ w7 ⟨rfl, b3⟩
  have X3 := (X2.below b3).below (below_new2 w7 (.cells #[.int .u64 (o : Int), .int .u64 (o : Int)] 25))
  have Z3 := (Y2.below b3).below (below_new2 w7 (.cells #[.int .u64 (o : Int), .int .u64 (o : Int)] 25))
  have Y3 := Box2.new w7 25 (.int .u64 (o : Int)) (.int .u64 (o : Int))
  have B3 := below_call (below_call B2 b3) (below_new2 w7 (.cells #[.int .u64 (o : Int), .int .u64 (o : Int)] 25))
  clear b3
  go_upto_region 10 with fail
  generalize w7.alloc (.cells #[.int .u64 (o : Int), .int .u64 (o : Int)] 25) = w8 at *
  generalize w7.heap.size = g3 at *
  clear X2 Y2 c0 c1 B2
  have c0 := X3.c0
  have c1 := X3.c1
  have d0 := Z3.c0
  have d1 := Z3.c1
  have k0 := Y3.c0
  have k1 := Y3.c1
  go_upto_region 12 with fail
  clear Z3 Y3 d0 d1 k0 k1
  go_wp2_with fail
  refine (fit_at t z x c S4 A4 E4 P4 true rfl (by have := hz.out; omega) (by have := hx.out; omega) rfl (by have := hx.out; have := hy.out; have := hz.out; have := ho.out; omega) (by have := hx.out; have := hy.out; have := hz.out; have := ho.out; omega) (by have := hx.out; have := hy.out; have := hz.out; have := ho.out; omega) (by have := hx.out; have := hy.out; have := hz.out; have := ho.out; omega) f4S.out f4A.out f4E.out f4P.out f4B.out _).mono ?_
  rintro _ w9 ⟨rfl, b4⟩
  have X4 := (X3.below b4).below (below_new2 w9 (.cells #[.int .u64 (A4 : Int), .int .u64 (E4 : Int)] 25))
  have Y4 := Box2.new w9 25 (.int .u64 (A4 : Int)) (.int .u64 (E4 : Int))
  have B4 := below_call (below_call B3 b4) (below_new2 w9 (.cells #[.int .u64 (A4 : Int), .int .u64 (E4 : Int)] 25))
  clear b4
  go_upto_region 15 with fail
  generalize w9.alloc (.cells #[.int .u64 (A4 : Int), .int .u64 (E4 : Int)] 25) = w10 at *
  generalize w9.heap.size = g4 at *
  clear X3 Y4 c0 c1 B3
  have c0 := X4.c0
  have c1 := X4.c1
  go_wp2_with fail
  refine (fit_at t z x c S5 A5 E5 P5 true rfl (by have := hz.out; omega) (by have := hx.out; omega) rfl (by have := hx.out; have := hy.out; have := hz.out; have := ho.out; omega) (by have := hx.out; have := hy.out; have := hz.out; have := ho.out; omega) (by have := hx.out; have := hy.out; have := hz.out; have := ho.out; omega) (by have := hx.out; have := hy.out; have := hz.out; have := ho.out; omega) f5S.out f5A.out f5E.out f5P.out f5B.out _).mono ?_
  rintro _ w11 ⟨rfl, b5⟩
  have Y5 := Box2.new w11 25 (.int .u64 (A5 : Int)) (.int .u64 (E5 : Int))
  have B5 := below_call (below_call B4 b5) (below_new2 w11 (.cells #[.int .u64 (A5 : Int), .int .u64 (E5 : Int)] 25))
  clear b5
  go_upto_region 16 with fail
  generalize w11.alloc (.cells #[.int .u64 (A5 : Int), .int .u64 (E5 : Int)] 25) = w12 at *
  generalize w11.heap.size = g5 at *
  have HB := Lib.hid B5
  clear X4 Y5 c0 c1 B4 B5
  go_wp2
  go_ret
  exact ⟨rfl, HB.out⟩
set_option maxHeartbeats 4000000 in
theorem core_p2n (t l a b k j x y z o c d : Nat) (ht : t < 4294967296) (hl : l < 65536) (ha : a < 65536) (hb : b < 65536) (hk : k < 256) (hj : j < 256) (hx : Hid (a + 1 = x)) (hy : Hid (b + 1 = y)) (hz : Hid (t + l = z)) (ho : Hid (o = 0))
    (ec : IntKind.u64.wrap (2 ^ (k % 13)) = c) (ed : IntKind.u64.wrap (2 ^ (j % 13)) = d) (lc : c ≤ 4096) (ld : d ≤ 4096) (hm : k % 13 ≤ j % 13) (hm2 : j % 13 ≤ k % 13)
    (z1 : Nat) (hz1 : z1 < 18446744073709551616)
    (S4 A4 E4 P4 S5 A5 E5 P5 : Nat) (too : Bool)
    (f1S : Hid (M.fitS t z x 1 = t)) (f1A : Hid (M.fitA t z x 1 = z1)) (f1E : Hid (M.fitE t z x 1 = z)) (f1P : Hid (M.fitP t z x 1 = 0)) (f1B : Hid (M.fitB t z x 1 = true))
    (f2S : Hid (M.fitS z1 z y 1 = o)) (f2A : Hid (M.fitA z1 z y 1 = o)) (f2E : Hid (M.fitE z1 z y 1 = o)) (f2P : Hid (M.fitP z1 z y 1 = o)) (f2B : Hid (M.fitB z1 z y 1 = false))
    (f3S : Hid (M.fitS t z (x + y) 1 = o)) (f3A : Hid (M.fitA t z (x + y) 1 = o)) (f3E : Hid (M.fitE t z (x + y) 1 = o)) (f3P : Hid (M.fitP t z (x + y) 1 = o)) (f3B : Hid (M.fitB t z (x + y) 1 = false))
    (f4S : Hid (M.fitS t z x c = S4)) (f4A : Hid (M.fitA t z x c = A4)) (f4E : Hid (M.fitE t z x c = E4)) (f4P : Hid (M.fitP t z x c = P4)) (f4B : Hid (M.fitB t z x c = false))
    (f5S : Hid (M.fitS t z x c = S5)) (f5A : Hid (M.fitA t z x c = A5)) (f5E : Hid (M.fitE t z x c = E5)) (f5P : Hid (M.fitP t z x c = P5)) (f5B : Hid (M.fitB t z x c = too))
    (w : World) : Calls Try.prog 7 #[.int .u32 t, .int .u16 l, .int .u16 a, .int .u16 b, .int .u8 k, .int .u8 j] w fun e w' => e = .returned (.bool true) ∧ Below w.heap.size w w' := by
  go_enter Try.func7, Try.ntmps7
  go_wp2_with fail
  refine (awake_any _).mono ?_
  rintro _ w1 ⟨rfl, b0⟩
  have Y0 := Box2.new w1 25 (.int .u64 t) (.int .u64 ((t : Int) + l))
  have B0 := below_call b0 (below_new2 w1 (.cells #[.int .u64 t, .int .u64 ((t : Int) + l)] 25))
  clear b0
  go_upto_region 5 with fail
  generalize w1.alloc (.cells #[.int .u64 t, .int .u64 ((t : Int) + l)] 25) = w2 at *
  generalize w1.heap.size = g at *
  have X0 := Y0
  clear Y0
  have c0 := X0.c0
  have c1 := X0.c1
  go_wp2_with fail
  refine (fit_at t z x 1 t z1 z 0 true rfl (by have := hz.out; omega) (by have := hx.out; omega) rfl (by have := hx.out; have := hy.out; have := hz.out; have := ho.out; omega) (by have := hx.out; have := hy.out; have := hz.out; have := ho.out; omega) (by have := hx.out; have := hy.out; have := hz.out; have := ho.out; omega) (by have := hx.out; have := hy.out; have := hz.out; have := ho.out; omega) f1S.out f1A.out f1E.out f1P.out f1B.out _).mono ?_
  rintro _ w3 ⟨rfl, b1⟩
  have X1 := (X0.below b1).below (below_new2 w3 (.cells #[.int .u64 (z1 : Int), .int .u64 (z : Int)] 25))
  have Y1 := Box2.new w3 25 (.int .u64 (z1 : Int)) (.int .u64 (z : Int))
  have B1 := below_call (below_call B0 b1) (below_new2 w3 (.cells #[.int .u64 (z1 : Int), .int .u64 (z : Int)] 25))
  clear b1
  go_upto_region 8 with fail
  generalize w3.alloc (.cells #[.int .u64 (z1 : Int), .int .u64 (z : Int)] 25) = w4 at *
  generalize w3.heap.size = g1 at *
  clear X0 c0 c1 B0
  have c0 := X1.c0
  have c1 := X1.c1
  have d0 := Y1.c0
  have d1 := Y1.c1
  go_wp2_with fail
  refine (fit_at z1 z y 1 o o o o false rfl rfl (by have := hy.out; omega) rfl (by have := hx.out; have := hy.out; have := hz.out; have := ho.out; omega) (by have := hx.out; have := hy.out; have := hz.out; have := ho.out; omega) (by have := hx.out; have := hy.out; have := hz.out; have := ho.out; omega) (by have := hx.out; have := hy.out; have := hz.out; have := ho.out; omega) f2S.out f2A.out f2E.out f2P.out f2B.out _).mono ?_
  rintro _ w5 ⟨rfl, b2⟩
  have X2 := (X1.below b2).below (below_new2 w5 (.cells #[.int .u64 (o : Int), .int .u64 (o : Int)] 25))
  have Y2 := Box2.new w5 25 (.int .u64 (o : Int)) (.int .u64 (o : Int))
  have B2 := below_call (below_call B1 b2) (below_new2 w5 (.cells #[.int .u64 (o : Int), .int .u64 (o : Int)] 25))
  clear b2
  go_upto_region 9 with fail
  generalize w5.alloc (.cells #[.int .u64 (o : Int), .int .u64 (o : Int)] 25) = w6 at *
  generalize w5.heap.size = g2 at *
  clear X1 Y1 c0 c1 d0 d1 B1
  have c0 := X2.c0
  have c1 := X2.c1
  go_wp2_with fail
  refine (fit_at t z (x + y) 1 o o o o false rfl (by have := hz.out; omega) (by have := hx.out; have := hy.out; have := hz.out; have := ho.out; omega) rfl (by have := hx.out; have := hy.out; have := hz.out; have := ho.out; omega) (by have := hx.out; have := hy.out; have := hz.out; have := ho.out; omega) (by have := hx.out; have := hy.out; have := hz.out; have := ho.out; omega) (by have := hx.out; have := hy.out; have := hz.out; have := ho.out; omega) f3S.out f3A.out f3E.out f3P.out f3B.out _).mono ?_
  rintro _ w7 ⟨rfl, b3⟩
  have X3 := (X2.below b3).below (below_new2 w7 (.cells #[.int .u64 (o : Int), .int .u64 (o : Int)] 25))
  have Z3 := (Y2.below b3).below (below_new2 w7 (.cells #[.int .u64 (o : Int), .int .u64 (o : Int)] 25))
  have Y3 := Box2.new w7 25 (.int .u64 (o : Int)) (.int .u64 (o : Int))
  have B3 := below_call (below_call B2 b3) (below_new2 w7 (.cells #[.int .u64 (o : Int), .int .u64 (o : Int)] 25))
  clear b3
  go_upto_region 10 with fail
  generalize w7.alloc (.cells #[.int .u64 (o : Int), .int .u64 (o : Int)] 25) = w8 at *
  generalize w7.heap.size = g3 at *
  clear X2 Y2 c0 c1 B2
  have c0 := X3.c0
  have c1 := X3.c1
  have d0 := Z3.c0
  have d1 := Z3.c1
  have k0 := Y3.c0
  have k1 := Y3.c1
  go_upto_region 12 with fail
  clear Z3 Y3 d0 d1 k0 k1
  go_wp2_with fail
  refine (fit_at t z x c S4 A4 E4 P4 false rfl (by have := hz.out; omega) (by have := hx.out; omega) rfl (by have := hx.out; have := hy.out; have := hz.out; have := ho.out; omega) (by have := hx.out; have := hy.out; have := hz.out; have := ho.out; omega) (by have := hx.out; have := hy.out; have := hz.out; have := ho.out; omega) (by have := hx.out; have := hy.out; have := hz.out; have := ho.out; omega) f4S.out f4A.out f4E.out f4P.out f4B.out _).mono ?_
  rintro _ w9 ⟨rfl, b4⟩
  have X4 := (X3.below b4).below (below_new2 w9 (.cells #[.int .u64 (A4 : Int), .int .u64 (E4 : Int)] 25))
  have Y4 := Box2.new w9 25 (.int .u64 (A4 : Int)) (.int .u64 (E4 : Int))
  have B4 := below_call (below_call B3 b4) (below_new2 w9 (.cells #[.int .u64 (A4 : Int), .int .u64 (E4 : Int)] 25))
  clear b4
  go_upto_region 15 with fail
  generalize w9.alloc (.cells #[.int .u64 (A4 : Int), .int .u64 (E4 : Int)] 25) = w10 at *
  generalize w9.heap.size = g4 at *
  clear X3 Y4 c0 c1 B3
  have c0 := X4.c0
  have c1 := X4.c1
  go_wp2_with fail
  refine (fit_at t z x c S5 A5 E5 P5 too rfl (by have := hz.out; omega) (by have := hx.out; omega) rfl (by have := hx.out; have := hy.out; have := hz.out; have := ho.out; omega) (by have := hx.out; have := hy.out; have := hz.out; have := ho.out; omega) (by have := hx.out; have := hy.out; have := hz.out; have := ho.out; omega) (by have := hx.out; have := hy.out; have := hz.out; have := ho.out; omega) f5S.out f5A.out f5E.out f5P.out f5B.out _).mono ?_
  rintro _ w11 ⟨rfl, b5⟩
  have Y5 := Box2.new w11 25 (.int .u64 (A5 : Int)) (.int .u64 (E5 : Int))
  have B5 := below_call (below_call B4 b5) (below_new2 w11 (.cells #[.int .u64 (A5 : Int), .int .u64 (E5 : Int)] 25))
  clear b5
  go_upto_region 16 with fail
  generalize w11.alloc (.cells #[.int .u64 (A5 : Int), .int .u64 (E5 : Int)] 25) = w12 at *
  generalize w11.heap.size = g5 at *
  have HB := Lib.hid B5
  clear X4 Y5 c0 c1 B4 B5
  go_wp2
  go_ret
  exact ⟨rfl, HB.out⟩
set_option maxHeartbeats 4000000 in
theorem core_n0n (t l a b k j x y z o c d : Nat) (ht : t < 4294967296) (hl : l < 65536) (ha : a < 65536) (hb : b < 65536) (hk : k < 256) (hj : j < 256) (hx : Hid (a + 1 = x)) (hy : Hid (b + 1 = y)) (hz : Hid (t + l = z)) (ho : Hid (o = 0))
    (ec : IntKind.u64.wrap (2 ^ (k % 13)) = c) (ed : IntKind.u64.wrap (2 ^ (j % 13)) = d) (lc : c ≤ 4096) (ld : d ≤ 4096) (hm : k % 13 < j % 13)
    
    (S4 A4 E4 P4 S5 A5 E5 P5 : Nat) (too : Bool)
    (f1S : Hid (M.fitS t z x 1 = o)) (f1A : Hid (M.fitA t z x 1 = o)) (f1E : Hid (M.fitE t z x 1 = o)) (f1P : Hid (M.fitP t z x 1 = o)) (f1B : Hid (M.fitB t z x 1 = false))
    (f2S : Hid (M.fitS o o y 1 = o)) (f2A : Hid (M.fitA o o y 1 = o)) (f2E : Hid (M.fitE o o y 1 = o)) (f2P : Hid (M.fitP o o y 1 = o)) (f2B : Hid (M.fitB o o y 1 = false))
    (f3S : Hid (M.fitS t z (x + y) 1 = o)) (f3A : Hid (M.fitA t z (x + y) 1 = o)) (f3E : Hid (M.fitE t z (x + y) 1 = o)) (f3P : Hid (M.fitP t z (x + y) 1 = o)) (f3B : Hid (M.fitB t z (x + y) 1 = false))
    (f4S : Hid (M.fitS t z x d = S4)) (f4A : Hid (M.fitA t z x d = A4)) (f4E : Hid (M.fitE t z x d = E4)) (f4P : Hid (M.fitP t z x d = P4)) (f4B : Hid (M.fitB t z x d = false))
    (f5S : Hid (M.fitS t z x c = S5)) (f5A : Hid (M.fitA t z x c = A5)) (f5E : Hid (M.fitE t z x c = E5)) (f5P : Hid (M.fitP t z x c = P5)) (f5B : Hid (M.fitB t z x c = too))
    (w : World) : Calls Try.prog 7 #[.int .u32 t, .int .u16 l, .int .u16 a, .int .u16 b, .int .u8 k, .int .u8 j] w fun e w' => e = .returned (.bool true) ∧ Below w.heap.size w w' := by
  go_enter Try.func7, Try.ntmps7
  go_wp2_with fail
  refine (awake_any _).mono ?_
  rintro _ w1 ⟨rfl, b0⟩
  have Y0 := Box2.new w1 25 (.int .u64 t) (.int .u64 ((t : Int) + l))
  have B0 := below_call b0 (below_new2 w1 (.cells #[.int .u64 t, .int .u64 ((t : Int) + l)] 25))
  clear b0
  go_upto_region 5 with fail
  generalize w1.alloc (.cells #[.int .u64 t, .int .u64 ((t : Int) + l)] 25) = w2 at *
  generalize w1.heap.size = g at *
  have X0 := Y0
  clear Y0
  have c0 := X0.c0
  have c1 := X0.c1
  go_wp2_with fail
  refine (fit_at t z x 1 o o o o false rfl (by have := hz.out; omega) (by have := hx.out; omega) rfl (by have := hx.out; have := hy.out; have := hz.out; have := ho.out; omega) (by have := hx.out; have := hy.out; have := hz.out; have := ho.out; omega) (by have := hx.out; have := hy.out; have := hz.out; have := ho.out; omega) (by have := hx.out; have := hy.out; have := hz.out; have := ho.out; omega) f1S.out f1A.out f1E.out f1P.out f1B.out _).mono ?_
  rintro _ w3 ⟨rfl, b1⟩
  have X1 := (X0.below b1).below (below_new2 w3 (.cells #[.int .u64 (o : Int), .int .u64 (o : Int)] 25))
  have Y1 := Box2.new w3 25 (.int .u64 (o : Int)) (.int .u64 (o : Int))
  have B1 := below_call (below_call B0 b1) (below_new2 w3 (.cells #[.int .u64 (o : Int), .int .u64 (o : Int)] 25))
  clear b1
  go_upto_region 8 with fail
  generalize w3.alloc (.cells #[.int .u64 (o : Int), .int .u64 (o : Int)] 25) = w4 at *
  generalize w3.heap.size = g1 at *
  clear X0 c0 c1 B0
  have c0 := X1.c0
  have c1 := X1.c1
  have d0 := Y1.c0
  have d1 := Y1.c1
  go_wp2_with fail
  refine (fit_at o o y 1 o o o o false rfl rfl (by have := hy.out; omega) rfl (by have := hx.out; have := hy.out; have := hz.out; have := ho.out; omega) (by have := hx.out; have := hy.out; have := hz.out; have := ho.out; omega) (by have := hx.out; have := hy.out; have := hz.out; have := ho.out; omega) (by have := hx.out; have := hy.out; have := hz.out; have := ho.out; omega) f2S.out f2A.out f2E.out f2P.out f2B.out _).mono ?_
  rintro _ w5 ⟨rfl, b2⟩
  have X2 := (X1.below b2).below (below_new2 w5 (.cells #[.int .u64 (o : Int), .int .u64 (o : Int)] 25))
  have Y2 := Box2.new w5 25 (.int .u64 (o : Int)) (.int .u64 (o : Int))
  have B2 := below_call (below_call B1 b2) (below_new2 w5 (.cells #[.int .u64 (o : Int), .int .u64 (o : Int)] 25))
  clear b2
  go_upto_region 9 with fail
  generalize w5.alloc (.cells #[.int .u64 (o : Int), .int .u64 (o : Int)] 25) = w6 at *
  generalize w5.heap.size = g2 at *
  clear X1 Y1 c0 c1 d0 d1 B1
  have c0 := X2.c0
  have c1 := X2.c1
  go_wp2_with fail
  refine (fit_at t z (x + y) 1 o o o o false rfl (by have := hz.out; omega) (by have := hx.out; have := hy.out; have := hz.out; have := ho.out; omega) rfl (by have := hx.out; have := hy.out; have := hz.out; have := ho.out; omega) (by have := hx.out; have := hy.out; have := hz.out; have := ho.out; omega) (by have := hx.out; have := hy.out; have := hz.out; have := ho.out; omega) (by have := hx.out; have := hy.out; have := hz.out; have := ho.out; omega) f3S.out f3A.out f3E.out f3P.out f3B.out _).mono ?_
  rintro _ w7 ⟨rfl, b3⟩
  have X3 := (X2.below b3).below (below_new2 w7 (.cells #[.int .u64 (o : Int), .int .u64 (o : Int)] 25))
  have Z3 := (Y2.below b3).below (below_new2 w7 (.cells #[.int .u64 (o : Int), .int .u64 (o : Int)] 25))
  have Y3 := Box2.new w7 25 (.int .u64 (o : Int)) (.int .u64 (o : Int))
  have B3 := below_call (below_call B2 b3) (below_new2 w7 (.cells #[.int .u64 (o : Int), .int .u64 (o : Int)] 25))
  clear b3
  go_upto_region 10 with fail
  generalize w7.alloc (.cells #[.int .u64 (o : Int), .int .u64 (o : Int)] 25) = w8 at *
  generalize w7.heap.size = g3 at *
  clear X2 Y2 c0 c1 B2
  have c0 := X3.c0
  have c1 := X3.c1
  have d0 := Z3.c0
  have d1 := Z3.c1
  have k0 := Y3.c0
  have k1 := Y3.c1
  go_upto_region 12 with fail
  clear Z3 Y3 d0 d1 k0 k1
  go_wp2_with fail
  refine (fit_at t z x d S4 A4 E4 P4 false rfl (by have := hz.out; omega) (by have := hx.out; omega) rfl (by have := hx.out; have := hy.out; have := hz.out; have := ho.out; omega) (by have := hx.out; have := hy.out; have := hz.out; have := ho.out; omega) (by have := hx.out; have := hy.out; have := hz.out; have := ho.out; omega) (by have := hx.out; have := hy.out; have := hz.out; have := ho.out; omega) f4S.out f4A.out f4E.out f4P.out f4B.out _).mono ?_
  rintro _ w9 ⟨rfl, b4⟩
  have X4 := (X3.below b4).below (below_new2 w9 (.cells #[.int .u64 (A4 : Int), .int .u64 (E4 : Int)] 25))
  have Y4 := Box2.new w9 25 (.int .u64 (A4 : Int)) (.int .u64 (E4 : Int))
  have B4 := below_call (below_call B3 b4) (below_new2 w9 (.cells #[.int .u64 (A4 : Int), .int .u64 (E4 : Int)] 25))
  clear b4
  go_upto_region 15 with fail
  generalize w9.alloc (.cells #[.int .u64 (A4 : Int), .int .u64 (E4 : Int)] 25) = w10 at *
  generalize w9.heap.size = g4 at *
  clear X3 Y4 c0 c1 B3
  have c0 := X4.c0
  have c1 := X4.c1
  go_wp2_with fail
  refine (fit_at t z x c S5 A5 E5 P5 too rfl (by have := hz.out; omega) (by have := hx.out; omega) rfl (by have := hx.out; have := hy.out; have := hz.out; have := ho.out; omega) (by have := hx.out; have := hy.out; have := hz.out; have := ho.out; omega) (by have := hx.out; have := hy.out; have := hz.out; have := ho.out; omega) (by have := hx.out; have := hy.out; have := hz.out; have := ho.out; omega) f5S.out f5A.out f5E.out f5P.out f5B.out _).mono ?_
  rintro _ w11 ⟨rfl, b5⟩
  have Y5 := Box2.new w11 25 (.int .u64 (A5 : Int)) (.int .u64 (E5 : Int))
  have B5 := below_call (below_call B4 b5) (below_new2 w11 (.cells #[.int .u64 (A5 : Int), .int .u64 (E5 : Int)] 25))
  clear b5
  go_upto_region 16 with fail
  generalize w11.alloc (.cells #[.int .u64 (A5 : Int), .int .u64 (E5 : Int)] 25) = w12 at *
  generalize w11.heap.size = g5 at *
  have HB := Lib.hid B5
  clear X4 Y5 c0 c1 B4 B5
  go_wp2
  go_ret
  exact ⟨rfl, HB.out⟩
set_option maxHeartbeats 4000000 in
theorem core_n1n (t l a b k j x y z o c d : Nat) (ht : t < 4294967296) (hl : l < 65536) (ha : a < 65536) (hb : b < 65536) (hk : k < 256) (hj : j < 256) (hx : Hid (a + 1 = x)) (hy : Hid (b + 1 = y)) (hz : Hid (t + l = z)) (ho : Hid (o = 0))
    (ec : IntKind.u64.wrap (2 ^ (k % 13)) = c) (ed : IntKind.u64.wrap (2 ^ (j % 13)) = d) (lc : c ≤ 4096) (ld : d ≤ 4096) (hm : j % 13 < k % 13)
    
    (S4 A4 E4 P4 S5 A5 E5 P5 : Nat) (too : Bool)
    (f1S : Hid (M.fitS t z x 1 = o)) (f1A : Hid (M.fitA t z x 1 = o)) (f1E : Hid (M.fitE t z x 1 = o)) (f1P : Hid (M.fitP t z x 1 = o)) (f1B : Hid (M.fitB t z x 1 = false))
    (f2S : Hid (M.fitS o o y 1 = o)) (f2A : Hid (M.fitA o o y 1 = o)) (f2E : Hid (M.fitE o o y 1 = o)) (f2P : Hid (M.fitP o o y 1 = o)) (f2B : Hid (M.fitB o o y 1 = false))
    (f3S : Hid (M.fitS t z (x + y) 1 = o)) (f3A : Hid (M.fitA t z (x + y) 1 = o)) (f3E : Hid (M.fitE t z (x + y) 1 = o)) (f3P : Hid (M.fitP t z (x + y) 1 = o)) (f3B : Hid (M.fitB t z (x + y) 1 = false))
    (f4S : Hid (M.fitS t z x c = S4)) (f4A : Hid (M.fitA t z x c = A4)) (f4E : Hid (M.fitE t z x c = E4)) (f4P : Hid (M.fitP t z x c = P4)) (f4B : Hid (M.fitB t z x c = false))
    (f5S : Hid (M.fitS t z x d = S5)) (f5A : Hid (M.fitA t z x d = A5)) (f5E : Hid (M.fitE t z x d = E5)) (f5P : Hid (M.fitP t z x d = P5)) (f5B : Hid (M.fitB t z x d = too))
    (w : World) : Calls Try.prog 7 #[.int .u32 t, .int .u16 l, .int .u16 a, .int .u16 b, .int .u8 k, .int .u8 j] w fun e w' => e = .returned (.bool true) ∧ Below w.heap.size w w' := by
  go_enter Try.func7, Try.ntmps7
  go_wp2_with fail
  refine (awake_any _).mono ?_
  rintro _ w1 ⟨rfl, b0⟩
  have Y0 := Box2.new w1 25 (.int .u64 t) (.int .u64 ((t : Int) + l))
  have B0 := below_call b0 (below_new2 w1 (.cells #[.int .u64 t, .int .u64 ((t : Int) + l)] 25))
  clear b0
  go_upto_region 5 with fail
  generalize w1.alloc (.cells #[.int .u64 t, .int .u64 ((t : Int) + l)] 25) = w2 at *
  generalize w1.heap.size = g at *
  have X0 := Y0
  clear Y0
  have c0 := X0.c0
  have c1 := X0.c1
  go_wp2_with fail
  refine (fit_at t z x 1 o o o o false rfl (by have := hz.out; omega) (by have := hx.out; omega) rfl (by have := hx.out; have := hy.out; have := hz.out; have := ho.out; omega) (by have := hx.out; have := hy.out; have := hz.out; have := ho.out; omega) (by have := hx.out; have := hy.out; have := hz.out; have := ho.out; omega) (by have := hx.out; have := hy.out; have := hz.out; have := ho.out; omega) f1S.out f1A.out f1E.out f1P.out f1B.out _).mono ?_
  rintro _ w3 ⟨rfl, b1⟩
  have X1 := (X0.below b1).below (below_new2 w3 (.cells #[.int .u64 (o : Int), .int .u64 (o : Int)] 25))
  have Y1 := Box2.new w3 25 (.int .u64 (o : Int)) (.int .u64 (o : Int))
  have B1 := below_call (below_call B0 b1) (below_new2 w3 (.cells #[.int .u64 (o : Int), .int .u64 (o : Int)] 25))
  clear b1
  go_upto_region 8 with fail
  generalize w3.alloc (.cells #[.int .u64 (o : Int), .int .u64 (o : Int)] 25) = w4 at *
  generalize w3.heap.size = g1 at *
  clear X0 c0 c1 B0
  have c0 := X1.c0
  have c1 := X1.c1
  have d0 := Y1.c0
  have d1 := Y1.c1
  go_wp2_with fail
  refine (fit_at o o y 1 o o o o false rfl rfl (by have := hy.out; omega) rfl (by have := hx.out; have := hy.out; have := hz.out; have := ho.out; omega) (by have := hx.out; have := hy.out; have := hz.out; have := ho.out; omega) (by have := hx.out; have := hy.out; have := hz.out; have := ho.out; omega) (by have := hx.out; have := hy.out; have := hz.out; have := ho.out; omega) f2S.out f2A.out f2E.out f2P.out f2B.out _).mono ?_
  rintro _ w5 ⟨rfl, b2⟩
  have X2 := (X1.below b2).below (below_new2 w5 (.cells #[.int .u64 (o : Int), .int .u64 (o : Int)] 25))
  have Y2 := Box2.new w5 25 (.int .u64 (o : Int)) (.int .u64 (o : Int))
  have B2 := below_call (below_call B1 b2) (below_new2 w5 (.cells #[.int .u64 (o : Int), .int .u64 (o : Int)] 25))
  clear b2
  go_upto_region 9 with fail
  generalize w5.alloc (.cells #[.int .u64 (o : Int), .int .u64 (o : Int)] 25) = w6 at *
  generalize w5.heap.size = g2 at *
  clear X1 Y1 c0 c1 d0 d1 B1
  have c0 := X2.c0
  have c1 := X2.c1
  go_wp2_with fail
  refine (fit_at t z (x + y) 1 o o o o false rfl (by have := hz.out; omega) (by have := hx.out; have := hy.out; have := hz.out; have := ho.out; omega) rfl (by have := hx.out; have := hy.out; have := hz.out; have := ho.out; omega) (by have := hx.out; have := hy.out; have := hz.out; have := ho.out; omega) (by have := hx.out; have := hy.out; have := hz.out; have := ho.out; omega) (by have := hx.out; have := hy.out; have := hz.out; have := ho.out; omega) f3S.out f3A.out f3E.out f3P.out f3B.out _).mono ?_
  rintro _ w7 ⟨rfl, b3⟩
  have X3 := (X2.below b3).below (below_new2 w7 (.cells #[.int .u64 (o : Int), .int .u64 (o : Int)] 25))
  have Z3 := (Y2.below b3).below (below_new2 w7 (.cells #[.int .u64 (o : Int), .int .u64 (o : Int)] 25))
  have Y3 := Box2.new w7 25 (.int .u64 (o : Int)) (.int .u64 (o : Int))
  have B3 := below_call (below_call B2 b3) (below_new2 w7 (.cells #[.int .u64 (o : Int), .int .u64 (o : Int)] 25))
  clear b3
  go_upto_region 10 with fail
  generalize w7.alloc (.cells #[.int .u64 (o : Int), .int .u64 (o : Int)] 25) = w8 at *
  generalize w7.heap.size = g3 at *
  clear X2 Y2 c0 c1 B2
  have c0 := X3.c0
  have c1 := X3.c1
  have d0 := Z3.c0
  have d1 := Z3.c1
  have k0 := Y3.c0
  have k1 := Y3.c1
  go_upto_region 12 with fail
  clear Z3 Y3 d0 d1 k0 k1
  go_wp2_with fail
  refine (fit_at t z x c S4 A4 E4 P4 false rfl (by have := hz.out; omega) (by have := hx.out; omega) rfl (by have := hx.out; have := hy.out; have := hz.out; have := ho.out; omega) (by have := hx.out; have := hy.out; have := hz.out; have := ho.out; omega) (by have := hx.out; have := hy.out; have := hz.out; have := ho.out; omega) (by have := hx.out; have := hy.out; have := hz.out; have := ho.out; omega) f4S.out f4A.out f4E.out f4P.out f4B.out _).mono ?_
  rintro _ w9 ⟨rfl, b4⟩
  have X4 := (X3.below b4).below (below_new2 w9 (.cells #[.int .u64 (A4 : Int), .int .u64 (E4 : Int)] 25))
  have Y4 := Box2.new w9 25 (.int .u64 (A4 : Int)) (.int .u64 (E4 : Int))
  have B4 := below_call (below_call B3 b4) (below_new2 w9 (.cells #[.int .u64 (A4 : Int), .int .u64 (E4 : Int)] 25))
  clear b4
  go_upto_region 15 with fail
  generalize w9.alloc (.cells #[.int .u64 (A4 : Int), .int .u64 (E4 : Int)] 25) = w10 at *
  generalize w9.heap.size = g4 at *
  clear X3 Y4 c0 c1 B3
  have c0 := X4.c0
  have c1 := X4.c1
  go_wp2_with fail
  refine (fit_at t z x d S5 A5 E5 P5 too rfl (by have := hz.out; omega) (by have := hx.out; omega) rfl (by have := hx.out; have := hy.out; have := hz.out; have := ho.out; omega) (by have := hx.out; have := hy.out; have := hz.out; have := ho.out; omega) (by have := hx.out; have := hy.out; have := hz.out; have := ho.out; omega) (by have := hx.out; have := hy.out; have := hz.out; have := ho.out; omega) f5S.out f5A.out f5E.out f5P.out f5B.out _).mono ?_
  rintro _ w11 ⟨rfl, b5⟩
  have Y5 := Box2.new w11 25 (.int .u64 (A5 : Int)) (.int .u64 (E5 : Int))
  have B5 := below_call (below_call B4 b5) (below_new2 w11 (.cells #[.int .u64 (A5 : Int), .int .u64 (E5 : Int)] 25))
  clear b5
  go_upto_region 16 with fail
  generalize w11.alloc (.cells #[.int .u64 (A5 : Int), .int .u64 (E5 : Int)] 25) = w12 at *
  generalize w11.heap.size = g5 at *
  have HB := Lib.hid B5
  clear X4 Y5 c0 c1 B4 B5
  go_wp2
  go_ret
  exact ⟨rfl, HB.out⟩
set_option maxHeartbeats 4000000 in
theorem core_n2n (t l a b k j x y z o c d : Nat) (ht : t < 4294967296) (hl : l < 65536) (ha : a < 65536) (hb : b < 65536) (hk : k < 256) (hj : j < 256) (hx : Hid (a + 1 = x)) (hy : Hid (b + 1 = y)) (hz : Hid (t + l = z)) (ho : Hid (o = 0))
    (ec : IntKind.u64.wrap (2 ^ (k % 13)) = c) (ed : IntKind.u64.wrap (2 ^ (j % 13)) = d) (lc : c ≤ 4096) (ld : d ≤ 4096) (hm : k % 13 ≤ j % 13) (hm2 : j % 13 ≤ k % 13)
    
    (S4 A4 E4 P4 S5 A5 E5 P5 : Nat) (too : Bool)
    (f1S : Hid (M.fitS t z x 1 = o)) (f1A : Hid (M.fitA t z x 1 = o)) (f1E : Hid (M.fitE t z x 1 = o)) (f1P : Hid (M.fitP t z x 1 = o)) (f1B : Hid (M.fitB t z x 1 = false))
    (f2S : Hid (M.fitS o o y 1 = o)) (f2A : Hid (M.fitA o o y 1 = o)) (f2E : Hid (M.fitE o o y 1 = o)) (f2P : Hid (M.fitP o o y 1 = o)) (f2B : Hid (M.fitB o o y 1 = false))
    (f3S : Hid (M.fitS t z (x + y) 1 = o)) (f3A : Hid (M.fitA t z (x + y) 1 = o)) (f3E : Hid (M.fitE t z (x + y) 1 = o)) (f3P : Hid (M.fitP t z (x + y) 1 = o)) (f3B : Hid (M.fitB t z (x + y) 1 = false))
    (f4S : Hid (M.fitS t z x c = S4)) (f4A : Hid (M.fitA t z x c = A4)) (f4E : Hid (M.fitE t z x c = E4)) (f4P : Hid (M.fitP t z x c = P4)) (f4B : Hid (M.fitB t z x c = false))
    (f5S : Hid (M.fitS t z x c = S5)) (f5A : Hid (M.fitA t z x c = A5)) (f5E : Hid (M.fitE t z x c = E5)) (f5P : Hid (M.fitP t z x c = P5)) (f5B : Hid (M.fitB t z x c = too))
    (w : World) : Calls Try.prog 7 #[.int .u32 t, .int .u16 l, .int .u16 a, .int .u16 b, .int .u8 k, .int .u8 j] w fun e w' => e = .returned (.bool true) ∧ Below w.heap.size w w' := by
  go_enter Try.func7, Try.ntmps7
  go_wp2_with fail
  refine (awake_any _).mono ?_
  rintro _ w1 ⟨rfl, b0⟩
  have Y0 := Box2.new w1 25 (.int .u64 t) (.int .u64 ((t : Int) + l))
  have B0 := below_call b0 (below_new2 w1 (.cells #[.int .u64 t, .int .u64 ((t : Int) + l)] 25))
  clear b0
  go_upto_region 5 with fail
  generalize w1.alloc (.cells #[.int .u64 t, .int .u64 ((t : Int) + l)] 25) = w2 at *
  generalize w1.heap.size = g at *
  have X0 := Y0
  clear Y0
  have c0 := X0.c0
  have c1 := X0.c1
  go_wp2_with fail
  refine (fit_at t z x 1 o o o o false rfl (by have := hz.out; omega) (by have := hx.out; omega) rfl (by have := hx.out; have := hy.out; have := hz.out; have := ho.out; omega) (by have := hx.out; have := hy.out; have := hz.out; have := ho.out; omega) (by have := hx.out; have := hy.out; have := hz.out; have := ho.out; omega) (by have := hx.out; have := hy.out; have := hz.out; have := ho.out; omega) f1S.out f1A.out f1E.out f1P.out f1B.out _).mono ?_
  rintro _ w3 ⟨rfl, b1⟩
  have X1 := (X0.below b1).below (below_new2 w3 (.cells #[.int .u64 (o : Int), .int .u64 (o : Int)] 25))
  have Y1 := Box2.new w3 25 (.int .u64 (o : Int)) (.int .u64 (o : Int))
  have B1 := below_call (below_call B0 b1) (below_new2 w3 (.cells #[.int .u64 (o : Int), .int .u64 (o : Int)] 25))
  clear b1
  go_upto_region 8 with fail
  generalize w3.alloc (.cells #[.int .u64 (o : Int), .int .u64 (o : Int)] 25) = w4 at *
  generalize w3.heap.size = g1 at *
  clear X0 c0 c1 B0
  have c0 := X1.c0
  have c1 := X1.c1
  have d0 := Y1.c0
  have d1 := Y1.c1
  go_wp2_with fail
  refine (fit_at o o y 1 o o o o false rfl rfl (by have := hy.out; omega) rfl (by have := hx.out; have := hy.out; have := hz.out; have := ho.out; omega) (by have := hx.out; have := hy.out; have := hz.out; have := ho.out; omega) (by have := hx.out; have := hy.out; have := hz.out; have := ho.out; omega) (by have := hx.out; have := hy.out; have := hz.out; have := ho.out; omega) f2S.out f2A.out f2E.out f2P.out f2B.out _).mono ?_
  rintro _ w5 ⟨rfl, b2⟩
  have X2 := (X1.below b2).below (below_new2 w5 (.cells #[.int .u64 (o : Int), .int .u64 (o : Int)] 25))
  have Y2 := Box2.new w5 25 (.int .u64 (o : Int)) (.int .u64 (o : Int))
  have B2 := below_call (below_call B1 b2) (below_new2 w5 (.cells #[.int .u64 (o : Int), .int .u64 (o : Int)] 25))
  clear b2
  go_upto_region 9 with fail
  generalize w5.alloc (.cells #[.int .u64 (o : Int), .int .u64 (o : Int)] 25) = w6 at *
  generalize w5.heap.size = g2 at *
  clear X1 Y1 c0 c1 d0 d1 B1
  have c0 := X2.c0
  have c1 := X2.c1
  go_wp2_with fail
  refine (fit_at t z (x + y) 1 o o o o false rfl (by have := hz.out; omega) (by have := hx.out; have := hy.out; have := hz.out; have := ho.out; omega) rfl (by have := hx.out; have := hy.out; have := hz.out; have := ho.out; omega) (by have := hx.out; have := hy.out; have := hz.out; have := ho.out; omega) (by have := hx.out; have := hy.out; have := hz.out; have := ho.out; omega) (by have := hx.out; have := hy.out; have := hz.out; have := ho.out; omega) f3S.out f3A.out f3E.out f3P.out f3B.out _).mono ?_
  rintro _ w7 ⟨rfl, b3⟩
  have X3 := (X2.below b3).below (below_new2 w7 (.cells #[.int .u64 (o : Int), .int .u64 (o : Int)] 25))
  have Z3 := (Y2.below b3).below (below_new2 w7 (.cells #[.int .u64 (o : Int), .int .u64 (o : Int)] 25))
  have Y3 := Box2.new w7 25 (.int .u64 (o : Int)) (.int .u64 (o : Int))
  have B3 := below_call (below_call B2 b3) (below_new2 w7 (.cells #[.int .u64 (o : Int), .int .u64 (o : Int)] 25))
  clear b3
  go_upto_region 10 with fail
  generalize w7.alloc (.cells #[.int .u64 (o : Int), .int .u64 (o : Int)] 25) = w8 at *
  generalize w7.heap.size = g3 at *
  clear X2 Y2 c0 c1 B2
  have c0 := X3.c0
  have c1 := X3.c1
  have d0 := Z3.c0
  have d1 := Z3.c1
  have k0 := Y3.c0
  have k1 := Y3.c1
  go_upto_region 12 with fail
  clear Z3 Y3 d0 d1 k0 k1
  go_wp2_with fail
  refine (fit_at t z x c S4 A4 E4 P4 false rfl (by have := hz.out; omega) (by have := hx.out; omega) rfl (by have := hx.out; have := hy.out; have := hz.out; have := ho.out; omega) (by have := hx.out; have := hy.out; have := hz.out; have := ho.out; omega) (by have := hx.out; have := hy.out; have := hz.out; have := ho.out; omega) (by have := hx.out; have := hy.out; have := hz.out; have := ho.out; omega) f4S.out f4A.out f4E.out f4P.out f4B.out _).mono ?_
  rintro _ w9 ⟨rfl, b4⟩
  have X4 := (X3.below b4).below (below_new2 w9 (.cells #[.int .u64 (A4 : Int), .int .u64 (E4 : Int)] 25))
  have Y4 := Box2.new w9 25 (.int .u64 (A4 : Int)) (.int .u64 (E4 : Int))
  have B4 := below_call (below_call B3 b4) (below_new2 w9 (.cells #[.int .u64 (A4 : Int), .int .u64 (E4 : Int)] 25))
  clear b4
  go_upto_region 15 with fail
  generalize w9.alloc (.cells #[.int .u64 (A4 : Int), .int .u64 (E4 : Int)] 25) = w10 at *
  generalize w9.heap.size = g4 at *
  clear X3 Y4 c0 c1 B3
  have c0 := X4.c0
  have c1 := X4.c1
  go_wp2_with fail
  refine (fit_at t z x c S5 A5 E5 P5 too rfl (by have := hz.out; omega) (by have := hx.out; omega) rfl (by have := hx.out; have := hy.out; have := hz.out; have := ho.out; omega) (by have := hx.out; have := hy.out; have := hz.out; have := ho.out; omega) (by have := hx.out; have := hy.out; have := hz.out; have := ho.out; omega) (by have := hx.out; have := hy.out; have := hz.out; have := ho.out; omega) f5S.out f5A.out f5E.out f5P.out f5B.out _).mono ?_
  rintro _ w11 ⟨rfl, b5⟩
  have Y5 := Box2.new w11 25 (.int .u64 (A5 : Int)) (.int .u64 (E5 : Int))
  have B5 := below_call (below_call B4 b5) (below_new2 w11 (.cells #[.int .u64 (A5 : Int), .int .u64 (E5 : Int)] 25))
  clear b5
  go_upto_region 16 with fail
  generalize w11.alloc (.cells #[.int .u64 (A5 : Int), .int .u64 (E5 : Int)] 25) = w12 at *
  generalize w11.heap.size = g5 at *
  have HB := Lib.hid B5
  clear X4 Y5 c0 c1 B4 B5
  go_wp2
  go_ret
  exact ⟨rfl, HB.out⟩

/-! The walk. -/
theorem walk (a0 : Int) (a1 : Int) (a2 : Int) (a3 : Int) (a4 : Int) (a5 : Int) (w : World) (w0 : (Lit.int .u32 a0).wf = true) (w1 : (Lit.int .u16 a1).wf = true) (w2 : (Lit.int .u16 a2).wf = true) (w3 : (Lit.int .u16 a3).wf = true) (w4 : (Lit.int .u8 a4).wf = true) (w5 : (Lit.int .u8 a5).wf = true) :
    Calls Try.prog 7 #[.int .u32 a0, .int .u16 a1, .int .u16 a2, .int .u16 a3, .int .u8 a4, .int .u8 a5] w fun e w' => e = .returned (.bool true) ∧ Below w.heap.size w w' := by
  obtain ⟨t, ht, rfl⟩ := u32_nat w0
  obtain ⟨l, hl, rfl⟩ := u16_nat w1
  obtain ⟨a, ha, rfl⟩ := u16_nat w2
  obtain ⟨b, hb, rfl⟩ := u16_nat w3
  obtain ⟨k, hk, rfl⟩ := u8_nat w4
  obtain ⟨j, hj, rfl⟩ := u8_nat w5
  obtain ⟨c, ec, pc, lc, c0⟩ := shifted13 k
  obtain ⟨d, ed, pd, ld, d0⟩ := shifted13 j
  have lcd : k % 13 ≤ j % 13 → c ≤ d := fun h => shifted_le k j c d ec ed h
  have ldc : j % 13 ≤ k % 13 → d ≤ c := fun h => shifted_le j k d c ed ec h
  have H := @Lib.hid
  by_cases h1 : a + 1 ≤ l
  · have p1 := M.one_yes t (t + l) (a + 1) (by omega) (by omega) (by omega)
    by_cases h2 : a + 1 + (b + 1) ≤ l
    · have p2 := M.one_yes (t + (a + 1)) (t + l) (b + 1) (by omega) (by omega) (by omega)
      have p3 := M.one_yes t (t + l) (a + 1 + (b + 1)) (by omega) (by omega) (by omega)
      rcases (by omega : k % 13 < j % 13 ∨ j % 13 < k % 13 ∨ (k % 13 ≤ j % 13 ∧ j % 13 ≤ k % 13)) with hm | hm | hm
      · skip
        cases fy : M.fitB t (t + l) (a + 1) d with
        | true =>
          have q := M.twice t (t + l) (a + 1) c d (by omega) pc pd (lcd (by omega)) (by omega) fy
          exact core_i0y t l a b k j (a + 1) (b + 1) (t + l) 0 c d ht hl ha hb hk hj (Lib.hid rfl) (Lib.hid rfl) (Lib.hid rfl) (Lib.hid rfl) ec ed lc ld (by omega) (t + (a + 1)) (t + (a + 1) + (b + 1)) (by omega) _ _ _ _ _ _ _ _ q.2 (Lib.hid p1.2.1) (Lib.hid p1.2.2.1) (Lib.hid p1.2.2.2.1) (Lib.hid p1.2.2.2.2) (Lib.hid p1.1) (Lib.hid p2.2.1) (Lib.hid p2.2.2.1) (Lib.hid p2.2.2.2.1) (Lib.hid p2.2.2.2.2) (Lib.hid p2.1) (Lib.hid p3.2.1) (Lib.hid (p3.2.2.1.trans (by omega))) (Lib.hid p3.2.2.2.1) (Lib.hid p3.2.2.2.2) (Lib.hid p3.1) (Lib.hid rfl) (Lib.hid rfl) (Lib.hid rfl) (Lib.hid rfl) (Lib.hid fy) (Lib.hid rfl) (Lib.hid rfl) (Lib.hid rfl) (Lib.hid rfl) (Lib.hid q.1) w
        | false =>
          exact core_i0n t l a b k j (a + 1) (b + 1) (t + l) 0 c d ht hl ha hb hk hj (Lib.hid rfl) (Lib.hid rfl) (Lib.hid rfl) (Lib.hid rfl) ec ed lc ld (by omega) (t + (a + 1)) (t + (a + 1) + (b + 1)) (by omega) _ _ _ _ _ _ _ _ _ (Lib.hid p1.2.1) (Lib.hid p1.2.2.1) (Lib.hid p1.2.2.2.1) (Lib.hid p1.2.2.2.2) (Lib.hid p1.1) (Lib.hid p2.2.1) (Lib.hid p2.2.2.1) (Lib.hid p2.2.2.2.1) (Lib.hid p2.2.2.2.2) (Lib.hid p2.1) (Lib.hid p3.2.1) (Lib.hid (p3.2.2.1.trans (by omega))) (Lib.hid p3.2.2.2.1) (Lib.hid p3.2.2.2.2) (Lib.hid p3.1) (Lib.hid rfl) (Lib.hid rfl) (Lib.hid rfl) (Lib.hid rfl) (Lib.hid fy) (Lib.hid rfl) (Lib.hid rfl) (Lib.hid rfl) (Lib.hid rfl) (Lib.hid rfl) w
      · skip
        cases fy : M.fitB t (t + l) (a + 1) c with
        | true =>
          have q := M.twice t (t + l) (a + 1) d c (by omega) pd pc (ldc (by omega)) (by omega) fy
          exact core_i1y t l a b k j (a + 1) (b + 1) (t + l) 0 c d ht hl ha hb hk hj (Lib.hid rfl) (Lib.hid rfl) (Lib.hid rfl) (Lib.hid rfl) ec ed lc ld (by omega) (t + (a + 1)) (t + (a + 1) + (b + 1)) (by omega) _ _ _ _ _ _ _ _ q.2 (Lib.hid p1.2.1) (Lib.hid p1.2.2.1) (Lib.hid p1.2.2.2.1) (Lib.hid p1.2.2.2.2) (Lib.hid p1.1) (Lib.hid p2.2.1) (Lib.hid p2.2.2.1) (Lib.hid p2.2.2.2.1) (Lib.hid p2.2.2.2.2) (Lib.hid p2.1) (Lib.hid p3.2.1) (Lib.hid (p3.2.2.1.trans (by omega))) (Lib.hid p3.2.2.2.1) (Lib.hid p3.2.2.2.2) (Lib.hid p3.1) (Lib.hid rfl) (Lib.hid rfl) (Lib.hid rfl) (Lib.hid rfl) (Lib.hid fy) (Lib.hid rfl) (Lib.hid rfl) (Lib.hid rfl) (Lib.hid rfl) (Lib.hid q.1) w
        | false =>
          exact core_i1n t l a b k j (a + 1) (b + 1) (t + l) 0 c d ht hl ha hb hk hj (Lib.hid rfl) (Lib.hid rfl) (Lib.hid rfl) (Lib.hid rfl) ec ed lc ld (by omega) (t + (a + 1)) (t + (a + 1) + (b + 1)) (by omega) _ _ _ _ _ _ _ _ _ (Lib.hid p1.2.1) (Lib.hid p1.2.2.1) (Lib.hid p1.2.2.2.1) (Lib.hid p1.2.2.2.2) (Lib.hid p1.1) (Lib.hid p2.2.1) (Lib.hid p2.2.2.1) (Lib.hid p2.2.2.2.1) (Lib.hid p2.2.2.2.2) (Lib.hid p2.1) (Lib.hid p3.2.1) (Lib.hid (p3.2.2.1.trans (by omega))) (Lib.hid p3.2.2.2.1) (Lib.hid p3.2.2.2.2) (Lib.hid p3.1) (Lib.hid rfl) (Lib.hid rfl) (Lib.hid rfl) (Lib.hid rfl) (Lib.hid fy) (Lib.hid rfl) (Lib.hid rfl) (Lib.hid rfl) (Lib.hid rfl) (Lib.hid rfl) w
      · skip
        cases fy : M.fitB t (t + l) (a + 1) c with
        | true =>
          have q := M.twice t (t + l) (a + 1) c c (by omega) pc pc (Nat.le_refl c) (by omega) fy
          exact core_i2y t l a b k j (a + 1) (b + 1) (t + l) 0 c d ht hl ha hb hk hj (Lib.hid rfl) (Lib.hid rfl) (Lib.hid rfl) (Lib.hid rfl) ec ed lc ld (by omega) (by omega) (t + (a + 1)) (t + (a + 1) + (b + 1)) (by omega) _ _ _ _ _ _ _ _ q.2 (Lib.hid p1.2.1) (Lib.hid p1.2.2.1) (Lib.hid p1.2.2.2.1) (Lib.hid p1.2.2.2.2) (Lib.hid p1.1) (Lib.hid p2.2.1) (Lib.hid p2.2.2.1) (Lib.hid p2.2.2.2.1) (Lib.hid p2.2.2.2.2) (Lib.hid p2.1) (Lib.hid p3.2.1) (Lib.hid (p3.2.2.1.trans (by omega))) (Lib.hid p3.2.2.2.1) (Lib.hid p3.2.2.2.2) (Lib.hid p3.1) (Lib.hid rfl) (Lib.hid rfl) (Lib.hid rfl) (Lib.hid rfl) (Lib.hid fy) (Lib.hid rfl) (Lib.hid rfl) (Lib.hid rfl) (Lib.hid rfl) (Lib.hid q.1) w
        | false =>
          exact core_i2n t l a b k j (a + 1) (b + 1) (t + l) 0 c d ht hl ha hb hk hj (Lib.hid rfl) (Lib.hid rfl) (Lib.hid rfl) (Lib.hid rfl) ec ed lc ld (by omega) (by omega) (t + (a + 1)) (t + (a + 1) + (b + 1)) (by omega) _ _ _ _ _ _ _ _ _ (Lib.hid p1.2.1) (Lib.hid p1.2.2.1) (Lib.hid p1.2.2.2.1) (Lib.hid p1.2.2.2.2) (Lib.hid p1.1) (Lib.hid p2.2.1) (Lib.hid p2.2.2.1) (Lib.hid p2.2.2.2.1) (Lib.hid p2.2.2.2.2) (Lib.hid p2.1) (Lib.hid p3.2.1) (Lib.hid (p3.2.2.1.trans (by omega))) (Lib.hid p3.2.2.2.1) (Lib.hid p3.2.2.2.2) (Lib.hid p3.1) (Lib.hid rfl) (Lib.hid rfl) (Lib.hid rfl) (Lib.hid rfl) (Lib.hid fy) (Lib.hid rfl) (Lib.hid rfl) (Lib.hid rfl) (Lib.hid rfl) (Lib.hid rfl) w
    · have p2 := M.one_no (t + (a + 1)) (t + l) (b + 1) (by omega) (by omega)
      have p3 := M.one_no t (t + l) (a + 1 + (b + 1)) (by omega) (by omega)
      rcases (by omega : k % 13 < j % 13 ∨ j % 13 < k % 13 ∨ (k % 13 ≤ j % 13 ∧ j % 13 ≤ k % 13)) with hm | hm | hm
      · skip
        cases fy : M.fitB t (t + l) (a + 1) d with
        | true =>
          have q := M.twice t (t + l) (a + 1) c d (by omega) pc pd (lcd (by omega)) (by omega) fy
          exact core_p0y t l a b k j (a + 1) (b + 1) (t + l) 0 c d ht hl ha hb hk hj (Lib.hid rfl) (Lib.hid rfl) (Lib.hid rfl) (Lib.hid rfl) ec ed lc ld (by omega) (t + (a + 1)) (by omega) _ _ _ _ _ _ _ _ q.2 (Lib.hid p1.2.1) (Lib.hid p1.2.2.1) (Lib.hid p1.2.2.2.1) (Lib.hid p1.2.2.2.2) (Lib.hid p1.1) (Lib.hid p2.2.1) (Lib.hid p2.2.2.1) (Lib.hid p2.2.2.2.1) (Lib.hid p2.2.2.2.2) (Lib.hid p2.1) (Lib.hid p3.2.1) (Lib.hid p3.2.2.1) (Lib.hid p3.2.2.2.1) (Lib.hid p3.2.2.2.2) (Lib.hid p3.1) (Lib.hid rfl) (Lib.hid rfl) (Lib.hid rfl) (Lib.hid rfl) (Lib.hid fy) (Lib.hid rfl) (Lib.hid rfl) (Lib.hid rfl) (Lib.hid rfl) (Lib.hid q.1) w
        | false =>
          exact core_p0n t l a b k j (a + 1) (b + 1) (t + l) 0 c d ht hl ha hb hk hj (Lib.hid rfl) (Lib.hid rfl) (Lib.hid rfl) (Lib.hid rfl) ec ed lc ld (by omega) (t + (a + 1)) (by omega) _ _ _ _ _ _ _ _ _ (Lib.hid p1.2.1) (Lib.hid p1.2.2.1) (Lib.hid p1.2.2.2.1) (Lib.hid p1.2.2.2.2) (Lib.hid p1.1) (Lib.hid p2.2.1) (Lib.hid p2.2.2.1) (Lib.hid p2.2.2.2.1) (Lib.hid p2.2.2.2.2) (Lib.hid p2.1) (Lib.hid p3.2.1) (Lib.hid p3.2.2.1) (Lib.hid p3.2.2.2.1) (Lib.hid p3.2.2.2.2) (Lib.hid p3.1) (Lib.hid rfl) (Lib.hid rfl) (Lib.hid rfl) (Lib.hid rfl) (Lib.hid fy) (Lib.hid rfl) (Lib.hid rfl) (Lib.hid rfl) (Lib.hid rfl) (Lib.hid rfl) w
      · skip
        cases fy : M.fitB t (t + l) (a + 1) c with
        | true =>
          have q := M.twice t (t + l) (a + 1) d c (by omega) pd pc (ldc (by omega)) (by omega) fy
          exact core_p1y t l a b k j (a + 1) (b + 1) (t + l) 0 c d ht hl ha hb hk hj (Lib.hid rfl) (Lib.hid rfl) (Lib.hid rfl) (Lib.hid rfl) ec ed lc ld (by omega) (t + (a + 1)) (by omega) _ _ _ _ _ _ _ _ q.2 (Lib.hid p1.2.1) (Lib.hid p1.2.2.1) (Lib.hid p1.2.2.2.1) (Lib.hid p1.2.2.2.2) (Lib.hid p1.1) (Lib.hid p2.2.1) (Lib.hid p2.2.2.1) (Lib.hid p2.2.2.2.1) (Lib.hid p2.2.2.2.2) (Lib.hid p2.1) (Lib.hid p3.2.1) (Lib.hid p3.2.2.1) (Lib.hid p3.2.2.2.1) (Lib.hid p3.2.2.2.2) (Lib.hid p3.1) (Lib.hid rfl) (Lib.hid rfl) (Lib.hid rfl) (Lib.hid rfl) (Lib.hid fy) (Lib.hid rfl) (Lib.hid rfl) (Lib.hid rfl) (Lib.hid rfl) (Lib.hid q.1) w
        | false =>
          exact core_p1n t l a b k j (a + 1) (b + 1) (t + l) 0 c d ht hl ha hb hk hj (Lib.hid rfl) (Lib.hid rfl) (Lib.hid rfl) (Lib.hid rfl) ec ed lc ld (by omega) (t + (a + 1)) (by omega) _ _ _ _ _ _ _ _ _ (Lib.hid p1.2.1) (Lib.hid p1.2.2.1) (Lib.hid p1.2.2.2.1) (Lib.hid p1.2.2.2.2) (Lib.hid p1.1) (Lib.hid p2.2.1) (Lib.hid p2.2.2.1) (Lib.hid p2.2.2.2.1) (Lib.hid p2.2.2.2.2) (Lib.hid p2.1) (Lib.hid p3.2.1) (Lib.hid p3.2.2.1) (Lib.hid p3.2.2.2.1) (Lib.hid p3.2.2.2.2) (Lib.hid p3.1) (Lib.hid rfl) (Lib.hid rfl) (Lib.hid rfl) (Lib.hid rfl) (Lib.hid fy) (Lib.hid rfl) (Lib.hid rfl) (Lib.hid rfl) (Lib.hid rfl) (Lib.hid rfl) w
      · skip
        cases fy : M.fitB t (t + l) (a + 1) c with
        | true =>
          have q := M.twice t (t + l) (a + 1) c c (by omega) pc pc (Nat.le_refl c) (by omega) fy
          exact core_p2y t l a b k j (a + 1) (b + 1) (t + l) 0 c d ht hl ha hb hk hj (Lib.hid rfl) (Lib.hid rfl) (Lib.hid rfl) (Lib.hid rfl) ec ed lc ld (by omega) (by omega) (t + (a + 1)) (by omega) _ _ _ _ _ _ _ _ q.2 (Lib.hid p1.2.1) (Lib.hid p1.2.2.1) (Lib.hid p1.2.2.2.1) (Lib.hid p1.2.2.2.2) (Lib.hid p1.1) (Lib.hid p2.2.1) (Lib.hid p2.2.2.1) (Lib.hid p2.2.2.2.1) (Lib.hid p2.2.2.2.2) (Lib.hid p2.1) (Lib.hid p3.2.1) (Lib.hid p3.2.2.1) (Lib.hid p3.2.2.2.1) (Lib.hid p3.2.2.2.2) (Lib.hid p3.1) (Lib.hid rfl) (Lib.hid rfl) (Lib.hid rfl) (Lib.hid rfl) (Lib.hid fy) (Lib.hid rfl) (Lib.hid rfl) (Lib.hid rfl) (Lib.hid rfl) (Lib.hid q.1) w
        | false =>
          exact core_p2n t l a b k j (a + 1) (b + 1) (t + l) 0 c d ht hl ha hb hk hj (Lib.hid rfl) (Lib.hid rfl) (Lib.hid rfl) (Lib.hid rfl) ec ed lc ld (by omega) (by omega) (t + (a + 1)) (by omega) _ _ _ _ _ _ _ _ _ (Lib.hid p1.2.1) (Lib.hid p1.2.2.1) (Lib.hid p1.2.2.2.1) (Lib.hid p1.2.2.2.2) (Lib.hid p1.1) (Lib.hid p2.2.1) (Lib.hid p2.2.2.1) (Lib.hid p2.2.2.2.1) (Lib.hid p2.2.2.2.2) (Lib.hid p2.1) (Lib.hid p3.2.1) (Lib.hid p3.2.2.1) (Lib.hid p3.2.2.2.1) (Lib.hid p3.2.2.2.2) (Lib.hid p3.1) (Lib.hid rfl) (Lib.hid rfl) (Lib.hid rfl) (Lib.hid rfl) (Lib.hid fy) (Lib.hid rfl) (Lib.hid rfl) (Lib.hid rfl) (Lib.hid rfl) (Lib.hid rfl) w
  · have p1 := M.one_no t (t + l) (a + 1) (by omega) (by omega)
    have p2 := M.one_no 0 0 (b + 1) (by omega) (by omega)
    have p3 := M.one_no t (t + l) (a + 1 + (b + 1)) (by omega) (by omega)
    rcases (by omega : k % 13 < j % 13 ∨ j % 13 < k % 13 ∨ (k % 13 ≤ j % 13 ∧ j % 13 ≤ k % 13)) with hm | hm | hm
    · skip
      have fy : M.fitB t (t + l) (a + 1) d = false := M.fit_false _ _ _ _ (by omega) (by have := (M.last_up t d ht pd ld).2.2.1; omega)
      exact core_n0n t l a b k j (a + 1) (b + 1) (t + l) 0 c d ht hl ha hb hk hj (Lib.hid rfl) (Lib.hid rfl) (Lib.hid rfl) (Lib.hid rfl) ec ed lc ld (by omega) _ _ _ _ _ _ _ _ _ (Lib.hid p1.2.1) (Lib.hid p1.2.2.1) (Lib.hid p1.2.2.2.1) (Lib.hid p1.2.2.2.2) (Lib.hid p1.1) (Lib.hid p2.2.1) (Lib.hid p2.2.2.1) (Lib.hid p2.2.2.2.1) (Lib.hid p2.2.2.2.2) (Lib.hid p2.1) (Lib.hid p3.2.1) (Lib.hid p3.2.2.1) (Lib.hid p3.2.2.2.1) (Lib.hid p3.2.2.2.2) (Lib.hid p3.1) (Lib.hid rfl) (Lib.hid rfl) (Lib.hid rfl) (Lib.hid rfl) (Lib.hid fy) (Lib.hid rfl) (Lib.hid rfl) (Lib.hid rfl) (Lib.hid rfl) (Lib.hid rfl) w
    · skip
      have fy : M.fitB t (t + l) (a + 1) c = false := M.fit_false _ _ _ _ (by omega) (by have := (M.last_up t c ht pc lc).2.2.1; omega)
      exact core_n1n t l a b k j (a + 1) (b + 1) (t + l) 0 c d ht hl ha hb hk hj (Lib.hid rfl) (Lib.hid rfl) (Lib.hid rfl) (Lib.hid rfl) ec ed lc ld (by omega) _ _ _ _ _ _ _ _ _ (Lib.hid p1.2.1) (Lib.hid p1.2.2.1) (Lib.hid p1.2.2.2.1) (Lib.hid p1.2.2.2.2) (Lib.hid p1.1) (Lib.hid p2.2.1) (Lib.hid p2.2.2.1) (Lib.hid p2.2.2.2.1) (Lib.hid p2.2.2.2.2) (Lib.hid p2.1) (Lib.hid p3.2.1) (Lib.hid p3.2.2.1) (Lib.hid p3.2.2.2.1) (Lib.hid p3.2.2.2.2) (Lib.hid p3.1) (Lib.hid rfl) (Lib.hid rfl) (Lib.hid rfl) (Lib.hid rfl) (Lib.hid fy) (Lib.hid rfl) (Lib.hid rfl) (Lib.hid rfl) (Lib.hid rfl) (Lib.hid rfl) w
    · skip
      have fy : M.fitB t (t + l) (a + 1) c = false := M.fit_false _ _ _ _ (by omega) (by have := (M.last_up t c ht pc lc).2.2.1; omega)
      exact core_n2n t l a b k j (a + 1) (b + 1) (t + l) 0 c d ht hl ha hb hk hj (Lib.hid rfl) (Lib.hid rfl) (Lib.hid rfl) (Lib.hid rfl) ec ed lc ld (by omega) (by omega) _ _ _ _ _ _ _ _ _ (Lib.hid p1.2.1) (Lib.hid p1.2.2.1) (Lib.hid p1.2.2.2.1) (Lib.hid p1.2.2.2.2) (Lib.hid p1.1) (Lib.hid p2.2.1) (Lib.hid p2.2.2.1) (Lib.hid p2.2.2.2.1) (Lib.hid p2.2.2.2.2) (Lib.hid p2.1) (Lib.hid p3.2.1) (Lib.hid p3.2.2.1) (Lib.hid p3.2.2.2.1) (Lib.hid p3.2.2.2.2) (Lib.hid p3.1) (Lib.hid rfl) (Lib.hid rfl) (Lib.hid rfl) (Lib.hid rfl) (Lib.hid fy) (Lib.hid rfl) (Lib.hid rfl) (Lib.hid rfl) (Lib.hid rfl) (Lib.hid rfl) w

/-! The row's step. -/
set_option maxRecDepth 100000 in
theorem lifted (os : Os) (started : os.Started) (H : Type) (enc : TypeId × Value → H) :
    ReturnsInHanded {} Try.checked os 7 .any (Rows.bumpTwiceSpec.pre6 enc Try.prog Try.f7 Rows.bumpTwiceRow.domain false) (Rows.bumpTwiceSpec.post enc Try.prog Try.f7 false true false false) := by
  refine returnsInHanded_of_change (C := Try.checked) own started (by kernel_rfl) Try.func7
    (ChangeSpec.witness6 (enc := enc) (C := Try.checked) false ⟨#[], #[.int .u32 0, .int .u16 0, .int .u16 0, .int .u16 0, .int .u8 0, .int .u8 0], []⟩ 8 (by kernel_rfl) (by kernel_rfl) (by kernel_rfl) (by kernel_rfl)) ?_
  intro W base args ds gs before hval0 hW hcnd _
  have hval : ∀ (j : Nat) t v, Try.f7.params[j]? = some t → args[j]? = some v → Value.okWide Try.prog W .any base t v := hval0
  have hW' := hW
  obtain ⟨p, q, hA0, hV, rfl, hfz, hnd⟩ := hW
  have hA : DataW.TrodAll enc Try.prog W 0 (fun _ => true) true Try.f7.params.toList args.toList ds p := hA0
  rw [Try.params7] at hA hval
  obtain ⟨v0, vs0, d0, ds0, p0, q0, hargs, rfl, rfl, h0, r0⟩ := trodAll_cons hA
  obtain ⟨v1, vs1, d1, ds1, p1, q1, rfl, rfl, rfl, h1, r1⟩ := trodAll_cons r0
  obtain ⟨v2, vs2, d2, ds2, p2, q2, rfl, rfl, rfl, h2, r2⟩ := trodAll_cons r1
  obtain ⟨v3, vs3, d3, ds3, p3, q3, rfl, rfl, rfl, h3, r3⟩ := trodAll_cons r2
  obtain ⟨v4, vs4, d4, ds4, p4, q4, rfl, rfl, rfl, h4, r4⟩ := trodAll_cons r3
  obtain ⟨v5, vs5, d5, ds5, p5, q5, rfl, rfl, rfl, h5, r5⟩ := trodAll_cons r4
  obtain ⟨rfl, rfl, rfl⟩ := trodAll_nil r5
  obtain rfl : args = #[v0, v1, v2, v3, v4, v5] := by cases args; simp_all
  obtain ⟨rfl, rfl⟩ := trodVars_none hV
  obtain ⟨a0, rfl, rfl, rfl, w0⟩ := open_int Try.underlying41 (hval 0 41 v0 rfl rfl) h0
  obtain ⟨a1, rfl, rfl, rfl, w1⟩ := open_int Try.underlying39 (hval 1 39 v1 rfl rfl) h1
  obtain ⟨a2, rfl, rfl, rfl, w2⟩ := open_int Try.underlying39 (hval 2 39 v2 rfl rfl) h2
  obtain ⟨a3, rfl, rfl, rfl, w3⟩ := open_int Try.underlying39 (hval 3 39 v3 rfl rfl) h3
  obtain ⟨a4, rfl, rfl, rfl, w4⟩ := open_int Try.underlying5 (hval 4 5 v4 rfl rfl) h4
  obtain ⟨a5, rfl, rfl, rfl, w5⟩ := open_int Try.underlying5 (hval 5 5 v5 rfl rfl) h5
  clear hA0 hval0
  refine (walk a0 a1 a2 a3 a4 a5 W w0 w1 w2 w3 w4 w5).mono fun e W' ⟨he, bel⟩ => ?_
  subst he
  exact ⟨_, rfl, _, _, _, [], _, [], hW', trodAll_mk1 (shut_bool Try.underlying4 _), (trodAll_cons_mk (shut_int Try.underlying41 w0) (trodAll_cons_mk (shut_int Try.underlying39 w1) (trodAll_cons_mk (shut_int Try.underlying39 w2) (trodAll_cons_mk (shut_int Try.underlying39 w3) (trodAll_cons_mk (shut_int Try.underlying5 w4) (trodAll_cons_mk (shut_int Try.underlying5 w5) trodAll_mk0)))))), rfl, bel.frame _, fun h => by cases h⟩

theorem over : Rows.bumpTwiceRow.holds Try.pinned (OpenSpec.ofChange Rows.bumpTwiceSpec) :=
  OpenClaim.holds_of_wide 7 Try.f7 rfl rfl rfl rfl rfl rfl rfl ⟨rfl, rfl, rfl, rfl, rfl⟩ rfl rfl rfl rfl rfl (by kernel_rfl) Try.func7 (by kernel_rfl)
    (of_decide_eq_true (by kernel_rfl)) (by unfold Func.isWrapper; first | (rw [if_pos (by decide +kernel)]; kernel_rfl) | (rw [if_neg (by decide +kernel)]; exact ⟨rfl, rfl⟩))
    (fun os started H enc _ => lifted os started H enc)

/-- The statement. -/
theorem proved : Rows.BumpTwiceSaid := over
#print axioms proved
end Go.Proofs.Ytmmcdnoedilefaa.bumpTwice
