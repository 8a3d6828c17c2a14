/-
  SpaceTicks is true whatever the input: a load ticks as often as a store and a zero of as many bytes there, a copy as both of its ends, and what touches one page ticks once; no conditions.
-/
import Derived.Test.YtdchnncoddjngaaRows
import Derived.WalkKit
import Derived.ProofKit
import Derived.OpenShut
import Derived.ShutString
import Derived.ChangeOld
import Derived.Below
import Derived.Test.YtdchnncoddjngaaEx
namespace Go.Proofs.Ytdchnncoddjngaa.spaceTicks
open Go.ChangeShapes Go.WideShapes Go.ChangeAt Go.RowKit
open Go.ChangeMaps (open_string shut_string)
set_option linter.unusedVariables false

theorem own : ownKnob Try.prog.godebug = none := by kernel_rfl
theorem laidOut : laidOutB Try.prog = true := by kernel_rfl

theorem u16_nat {a : Int} (h : (Lit.int .u16 a).wf = true) : ∃ n : Nat, n < 65536 ∧ a = n := by
  have := bounds_u16 h
  exact ⟨a.toNat, by omega, by omega⟩
theorem w64 (v : Int) (h : -9223372036854775808 ≤ v ∧ v ≤ 9223372036854775807) : wrap64 v = v := by
  unfold wrap64
  omega
theorem ticks_math (T0 T1 T2 T3 T4 T5 x y : Nat) (hx : x ≤ 5) (hy : y ≤ 5) (q0 : T0 = 0) (q1 : T1 = T0 + x) (q2 : T2 = T1 + x) (q3 : T3 = T2 + x) (q4 : T4 = T3 + y) (q5 : T5 = T4 + y + x) :
    ∃ z p : Nat, wrap64 ((T1 : Int) - (T0 : Int)) = (x : Int) ∧ wrap64 ((T2 : Int) - (T1 : Int)) = (x : Int) ∧ wrap64 ((T3 : Int) - (T2 : Int)) = (x : Int) ∧ wrap64 ((T5 : Int) - (T4 : Int)) = (p : Int) ∧
      wrap64 ((x : Int) + (T4 : Int)) = (z : Int) ∧ wrap64 ((z : Int) - (T3 : Int)) = (p : Int) :=
  ⟨x + T4, x + y, (w64 _ (by omega)).trans (by omega), (w64 _ (by omega)).trans (by omega), (w64 _ (by omega)).trans (by omega), (w64 _ (by omega)).trans (by omega), (w64 _ (by omega)).trans (by omega), (w64 _ (by omega)).trans (by omega)⟩
theorem in_of {a n z : Nat} (h : a + n ≤ z) (hz : z < 18446744073709551616) : M.inB a n z = true := by
  unfold M.inB M.addB M.addV
  have h1 : a + n < 18446744073709551616 := by omega
  rw [if_pos h1]
  simp [h1, h]

/-! The walk. -/
set_option maxHeartbeats 1000000 in
theorem walk (a0 : Int) (a1 : Int) (a2 : Int) (w : World) (w0 : (Lit.int .u16 a0).wf = true) (w1 : (Lit.int .u16 a1).wf = true) (w2 : (Lit.int .u16 a2).wf = true) :
    Calls Try.prog 9 #[.int .u16 a0, .int .u16 a1, .int .u16 a2] w fun e w' => e = .returned (.bool true) ∧ Below w.heap.size w w' := by
  obtain ⟨a, ha, rfl⟩ := u16_nat w0
  obtain ⟨t, ht, rfl⟩ := u16_nat w1
  obtain ⟨n, hn, rfl⟩ := u16_nat w2
  clear w0 w1 w2
  obtain ⟨k, hk⟩ : ∃ k : Nat, (n : Int) % 9000 = (k : Int) := ⟨n % 9000, by omega⟩
  have hk9 : k < 9000 := by omega
  go_enter Try.func9, Try.ntmps9
  go_wp2_with fail
  refine (awake_any _).mono ?_
  rintro e w1 ⟨rfl, b1⟩
  go_wp2_with fail
  refine (snew_any 64 64 (by decide) _).mono ?_
  rintro e w2 ⟨s, rfl, S2, b2⟩
  have B2 := Lib.hid (below_call b1 b2)
  have b1s := Lib.hid b1.size
  obtain ⟨T0, hT0⟩ : ∃ T0 : Nat, T0 = 0 := ⟨_, rfl⟩
  rw [← hT0] at S2
  have HT0 := Lib.hid hT0
  have H2 := Lib.hid S2
  clear b1 b2 S2 hT0
  obtain ⟨x, hx⟩ : ∃ x, x = M.touched a k := ⟨_, rfl⟩
  obtain ⟨y, hy⟩ : ∃ y, y = M.touched t k := ⟨_, rfl⟩
  have x1 := M.touched_one a k
  have x2 := M.touched_le a k
  have y2 := M.touched_le t k
  rw [← hx] at x1 x2
  rw [← hy] at y2
  have HXY := Lib.hid (show x = M.touched a k ∧ y = M.touched t k ∧ (x = 1 ↔ a % 4096 + k ≤ 4096) from ⟨hx, hy, x1⟩)
  clear hx hy x1
  go_wp2_with fail
  refine (sticks_any H2.out).mono ?_
  rintro e w' ⟨rfl, rfl⟩
  go_wp2_with fail
  refine (load_ok H2.out a k (by omega) (in_of (by omega) (by omega)) (by omega) (by have := HXY.out; have := HT0.out; omega)).mono ?_
  rintro e w3 ⟨g3, rfl, hg31, hg32, o3, S3, k3⟩
  rw [← HXY.out.1] at S3
  obtain ⟨T1, hT1⟩ : ∃ T1 : Nat, T1 = T0 + x := ⟨_, rfl⟩
  rw [← hT1] at S3
  have HT1 := Lib.hid hT1
  clear hT1
  have H3 := Lib.hid S3
  have K3 := Lib.hid k3
  clear hg31 hg32 o3 S3 k3
  go_wp2_with fail
  refine (sticks_any H3.out).mono ?_
  rintro e w' ⟨rfl, rfl⟩
  have hmk := make22 k (k : Int) rfl (by omega)
  go_wp2_with fail
  refine (store_ok (H3.out.alloc _) a k k (some ⟨w3.heap.size, 0, none⟩) (List.replicate k 0) (by simp) (own_made k w3).lies (Nat.le_refl _) (fun _ ad e hO => ?_) (by omega) (in_of (by omega) (by omega)) (by omega) (by have := HXY.out; have := HT0.out; have := HT1.out; omega)).mono ?_
  · injection e with e
    have := H3.out.lt hO
    rw [← e] at this
    exact absurd this (Nat.lt_irrefl _)
  rintro e w4 ⟨rfl, S4, k4⟩
  rw [← HXY.out.1] at S4
  obtain ⟨T2, hT2⟩ : ∃ T2 : Nat, T2 = T1 + x := ⟨_, rfl⟩
  rw [← hT2] at S4
  have HT2 := Lib.hid hT2
  clear hT2
  have H4 := Lib.hid S4
  have K4 := Lib.hid k4
  clear S4 k4 hmk
  go_wp2_with fail
  refine (sticks_any H4.out).mono ?_
  rintro e w' ⟨rfl, rfl⟩
  go_wp2_with fail
  refine (zero_ok H4.out a k (by omega) (by omega) (in_of (by omega) (by omega)) (by have := HXY.out; have := HT0.out; have := HT1.out; have := HT2.out; omega)).mono ?_
  rintro e w5 ⟨rfl, S5, k5⟩
  rw [← HXY.out.1] at S5
  obtain ⟨T3, hT3⟩ : ∃ T3 : Nat, T3 = T2 + x := ⟨_, rfl⟩
  rw [← hT3] at S5
  have HT3 := Lib.hid hT3
  clear hT3
  have H5 := Lib.hid S5
  have K5 := Lib.hid k5
  clear S5 k5
  go_wp2_with fail
  refine (sticks_any H5.out).mono ?_
  rintro e w' ⟨rfl, rfl⟩
  go_wp2_with fail
  refine (load_ok H5.out t k (by omega) (in_of (by omega) (by omega)) (by omega) (by have := HXY.out; have := HT0.out; have := HT1.out; have := HT2.out; have := HT3.out; omega)).mono ?_
  rintro e w6 ⟨g6, rfl, hg61, hg62, o6, S6, k6⟩
  rw [← HXY.out.2.1] at S6
  obtain ⟨T4, hT4⟩ : ∃ T4 : Nat, T4 = T3 + y := ⟨_, rfl⟩
  rw [← hT4] at S6
  have HT4 := Lib.hid hT4
  clear hT4
  have H6 := Lib.hid S6
  have K6 := Lib.hid k6
  clear hg61 hg62 o6 S6 k6
  go_wp2_with fail
  refine (sticks_any H6.out).mono ?_
  rintro e w' ⟨rfl, rfl⟩
  go_wp2_with fail
  refine (copy_ok H6.out a t k (by omega) (by omega) (in_of (by omega) (by omega)) (in_of (by omega) (by omega)) (by omega) (by have := HXY.out; have := HT0.out; have := HT1.out; have := HT2.out; have := HT3.out; have := HT4.out; omega)).mono ?_
  rintro e w7 ⟨rfl, S7, k7⟩
  rw [← HXY.out.1, ← HXY.out.2.1] at S7
  obtain ⟨T5, hT5⟩ : ∃ T5 : Nat, T5 = T4 + y + x := ⟨_, rfl⟩
  rw [← hT5] at S7
  have HT5 := Lib.hid hT5
  clear hT5
  have H7 := Lib.hid S7
  have K7 := Lib.hid k7
  clear S7 k7
  go_wp2_with fail
  refine (sticks_any H7.out).mono ?_
  rintro e w' ⟨rfl, rfl⟩
  obtain ⟨z, p, e1, e2, e3, e4, e5, e6⟩ := ticks_math T0 T1 T2 T3 T4 T5 x y (by omega) (by omega) HT0.out HT1.out HT2.out HT3.out HT4.out HT5.out
  have B7 := Lib.hid (show Below w.heap.size w w7 from by
    have p2 := B2.out.size
    have p3 := K3.out.size
    have p4 := K4.out.size
    have p5 := K5.out.size
    have p6 := K6.out.size
    have z0 : (w3.alloc (.cells (madeCells #[.int .u8 0] k) 5)).heap.size = w3.heap.size + 1 := by simp
    have s1 := b1s.out
    have c1 : Below w.heap.size w2 w3 := K3.out.below (by omega) (fun i h => by omega)
    have c2 : Below w.heap.size w3 w4 := ((Below.refl _ _).alloc (by omega) _).trans (K4.out.below (by omega) (fun i h => by omega))
    have c3 : Below w.heap.size w4 w5 := K5.out.below (by omega) (fun i h => by omega)
    have c4 : Below w.heap.size w5 w6 := K6.out.below (by omega) (fun i h => by omega)
    have c5 : Below w.heap.size w6 w7 := K7.out.below (by omega) (fun i h => by omega)
    exact ((((B2.out.trans c1).trans c2).trans c3).trans c4).trans c5)
  clear H2 H3 H4 H5 H6 H7 K3 K4 K5 K6 K7
  by_cases hone : x = 1
  · have h1 : a % 4096 + k ≤ 4096 := HXY.out.2.2.1 hone
    have o1 : decide ((a : Int) % 4096 + (k : Int) ≤ 4096) = true := by simp; omega
    have o2 : ((x : Int) == 1) = true := by simp; omega
    clear hone h1
    go_wp2_with fail
    go_ret
    exact ⟨rfl, B7.out⟩
  · have h1 : ¬ (a % 4096 + k ≤ 4096) := fun h => hone (HXY.out.2.2.2 h)
    have o1 : decide ((a : Int) % 4096 + (k : Int) ≤ 4096) = false := by simp; omega
    have o2 : ((x : Int) == 1) = false := by simp; omega
    clear hone h1
    go_wp2_with fail
    go_ret
    exact ⟨rfl, B7.out⟩

/-! The row's step. -/
set_option maxRecDepth 100000 in
theorem lifted (os : Os) (started : os.Started) (H : Type) (enc : TypeId × Value → H) :
    ReturnsInHanded {} Try.checked os 9 .any (Rows.spaceTicksSpec.pre6 enc Try.prog Try.f9 Rows.spaceTicksRow.domain false) (Rows.spaceTicksSpec.post enc Try.prog Try.f9 false true false false) := by
  refine returnsInHanded_of_change (C := Try.checked) own started (by kernel_rfl) Try.func9
    (ChangeSpec.witness6 (enc := enc) (C := Try.checked) false ⟨#[], #[.int .u16 0, .int .u16 0, .int .u16 0], []⟩ 8 (by kernel_rfl) (by kernel_rfl) (by kernel_rfl) (by kernel_rfl)) ?_
  intro W base args ds gs before hval0 hW hcnd _
  have hval : ∀ (j : Nat) t v, Try.f9.params[j]? = some t → args[j]? = some v → Value.okWide Try.prog W .any base t v := hval0
  have hW' := hW
  obtain ⟨p, q, hA0, hV, rfl, hfz, hnd⟩ := hW
  have hA : DataW.TrodAll enc Try.prog W 0 (fun _ => true) true Try.f9.params.toList args.toList ds p := hA0
  rw [Try.params9] at hA hval
  obtain ⟨v0, vs0, d0, ds0, p0, q0, hargs, rfl, rfl, h0, r0⟩ := trodAll_cons hA
  obtain ⟨v1, vs1, d1, ds1, p1, q1, rfl, rfl, rfl, h1, r1⟩ := trodAll_cons r0
  obtain ⟨v2, vs2, d2, ds2, p2, q2, rfl, rfl, rfl, h2, r2⟩ := trodAll_cons r1
  obtain ⟨rfl, rfl, rfl⟩ := trodAll_nil r2
  obtain rfl : args = #[v0, v1, v2] := by cases args; simp_all
  obtain ⟨rfl, rfl⟩ := trodVars_none hV
  obtain ⟨a0, rfl, rfl, rfl, w0⟩ := open_int Try.underlying55 (hval 0 55 v0 rfl rfl) h0
  obtain ⟨a1, rfl, rfl, rfl, w1⟩ := open_int Try.underlying55 (hval 1 55 v1 rfl rfl) h1
  obtain ⟨a2, rfl, rfl, rfl, w2⟩ := open_int Try.underlying55 (hval 2 55 v2 rfl rfl) h2
  clear hA0 hval0
  refine (walk a0 a1 a2 W w0 w1 w2).mono fun e W' ⟨he, bel⟩ => ?_
  subst he
  exact ⟨_, rfl, _, _, _, [], _, [], hW', trodAll_mk1 (shut_bool Try.underlying4 _), (trodAll_cons_mk (shut_int Try.underlying55 w0) (trodAll_cons_mk (shut_int Try.underlying55 w1) (trodAll_cons_mk (shut_int Try.underlying55 w2) trodAll_mk0))), rfl, bel.frame _, fun h => by cases h⟩

theorem over : Rows.spaceTicksRow.holds Try.pinned (OpenSpec.ofChange Rows.spaceTicksSpec) :=
  OpenClaim.holds_of_wide 9 Try.f9 rfl rfl rfl rfl rfl rfl rfl ⟨rfl, rfl, rfl, rfl, rfl⟩ rfl rfl rfl rfl rfl (by kernel_rfl) Try.func9 (by kernel_rfl)
    (of_decide_eq_true (by kernel_rfl)) (by unfold Func.isWrapper; first | (rw [if_pos (by decide +kernel)]; kernel_rfl) | (rw [if_neg (by decide +kernel)]; exact ⟨rfl, rfl⟩))
    (fun os started H enc _ => lifted os started H enc)

/-- The statement. -/
theorem proved : Rows.SpaceTicksSaid := over
#print axioms proved
end Go.Proofs.Ytdchnncoddjngaa.spaceTicks
