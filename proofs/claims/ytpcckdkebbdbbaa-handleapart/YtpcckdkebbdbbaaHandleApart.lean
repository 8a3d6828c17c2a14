/-
  HandleApart: handles are the same just if their kinds, slots and generations are; they are ordered by kind, then generation, then slot; for every input the law returns true, and the arguments read behind the call as they read before. No condition.
-/
import Derived.Test.YtpcckdkebbdbbaaRows
import Derived.WalkKit
import Derived.ProofKit
import Derived.OpenShut
import Derived.ShutString
import Derived.ChangeOld
import Derived.Below
import Derived.Test.YtpcckdkebbdbbaaA12
namespace Go.Proofs.Ytpcckdkebbdbbaa.handleApart
open Go.ChangeShapes Go.WideShapes Go.ChangeAt Go.RowKit
set_option linter.unusedVariables false

theorem own : ownKnob Try.prog.godebug = none := by kernel_rfl

theorem core (a b s t g h : Nat) (k j x y p q : Int) (hs : s < 4294967296) (ht : t < 4294967296)
    (ek : ((a : Int) % 3) + 1 = k) (ej : ((b : Int) % 3) + 1 = j) (ex : ((g : Int) % 1073741824) = x) (ey : ((h : Int) % 1073741824) = y)
    (hp : M.hpV k s x = p) (hq : M.hpV j t y = q) (w : World) :
    Calls Try.prog 7 #[.int .u8 a, .int .u8 b, .int .u32 s, .int .u32 t, .int .u32 g, .int .u32 h] w fun e w' => e = .returned (.bool true) ∧ Below w.heap.size w w' := by
  have k1 : 1 ≤ k := by omega
  have k3 : k ≤ 3 := by omega
  have j1 : 1 ≤ j := by omega
  have j3 : j ≤ 3 := by omega
  have x0 : 0 ≤ x := by omega
  have x1 : x < 1073741824 := by omega
  have y0 : 0 ≤ y := by omega
  have y1 : y < 1073741824 := by omega
  have ep := hp
  rw [M.hpV_yes _ _ _ (by omega)] at ep
  have eq := hq
  rw [M.hpV_yes _ _ _ (by omega)] at eq
  have pq : (p = q) ↔ (k = j ∧ (s : Int) = t ∧ x = y) := by omega
  have lt : p < q ↔ (k < j ∨ (k = j ∧ (x < y ∨ (x = y ∧ (s : Int) < t)))) := by omega
  have p0 : (p != 0) = true := by simp; omega
  have HP := Lib.hid hp; have HQ := Lib.hid hq; clear hp hq
  have lk1 := Lib.hid (show (-9223372036854775808 : Int) ≤ k by omega)
  have lk2 := Lib.hid (show k ≤ (9223372036854775807 : Int) by omega)
  have lj1 := Lib.hid (show (-9223372036854775808 : Int) ≤ j by omega)
  have lj2 := Lib.hid (show j ≤ (9223372036854775807 : Int) by omega)
  have PQ := Lib.hid pq; have LT := Lib.hid lt
  clear ep eq pq lt
  go_enter Try.func7, Try.ntmps7
  go_wp2_with fail
  refine (awake_any _).mono ?_
  rintro _ w1 ⟨rfl, b1⟩
  go_wp2_with fail
  refine (hpack_at k s x p rfl rfl rfl lk1.out lk2.out HP.out _).mono ?_
  rintro _ w2 ⟨rfl, rfl⟩
  go_wp2_with fail
  refine (hpack_at j t y q rfl rfl rfl lj1.out lj2.out HQ.out _).mono ?_
  rintro _ w2 ⟨rfl, rfl⟩
  clear ek ej ex ey
  rcases Int.lt_trichotomy k j with hkj | hkj | hkj
  · have c1 : (p == q) = false := by simp; have := PQ.out; omega
    have c2 : decide (p < q) = true := decide_eq_true (by have := LT.out; omega)
    have c3 : (k == j) = false := by simp; omega
    have c4 : decide (k < j) = true := decide_eq_true hkj
    go_wp2
    go_ret
    exact ⟨retB (by simp), b1⟩
  · subst hkj
    rcases Int.lt_trichotomy x y with hxy | hxy | hxy
    · have c1 : (p == q) = false := by simp; have := PQ.out; omega
      have c2 : decide (p < q) = true := decide_eq_true (by have := LT.out; omega)
      have c3 : (x == y) = false := by simp; omega
      have c4 : decide (x < y) = true := decide_eq_true hxy
      cases c5 : ((s : Int) == t)
      · go_wp2
        go_ret
        exact ⟨retB (by simp), b1⟩
      · go_wp2
        go_ret
        exact ⟨retB (by simp), b1⟩
    · subst hxy
      rcases Nat.lt_trichotomy s t with hst | hst | hst
      · have c1 : (p == q) = false := by simp; have := PQ.out; omega
        have c2 : decide (p < q) = true := decide_eq_true (by have := LT.out; omega)
        have c3 : ((s : Int) == t) = false := by simp; omega
        have c4 : decide (s < t) = true := decide_eq_true hst
        go_wp2
        go_ret
        exact ⟨retB (by simp), b1⟩
      · subst hst
        have e : p = q := PQ.out.2 ⟨rfl, rfl, rfl⟩
        subst e
        go_wp2
        go_ret
        exact ⟨retB (by simp), b1⟩
      · have c1 : (p == q) = false := by simp; have := PQ.out; omega
        have c2 : decide (p < q) = false := decide_eq_false (by have := LT.out; omega)
        have c3 : ((s : Int) == t) = false := by simp; omega
        have c4 : decide (s < t) = false := decide_eq_false (by omega)
        go_wp2
        go_ret
        exact ⟨retB (by simp), b1⟩
    · have c1 : (p == q) = false := by simp; have := PQ.out; omega
      have c2 : decide (p < q) = false := decide_eq_false (by have := LT.out; omega)
      have c3 : (x == y) = false := by simp; omega
      have c4 : decide (x < y) = false := decide_eq_false (by omega)
      cases c5 : ((s : Int) == t)
      · go_wp2
        go_ret
        exact ⟨retB (by simp), b1⟩
      · go_wp2
        go_ret
        exact ⟨retB (by simp), b1⟩
  · have c1 : (p == q) = false := by simp; have := PQ.out; omega
    have c2 : decide (p < q) = false := decide_eq_false (by have := LT.out; omega)
    have c3 : (k == j) = false := by simp; omega
    have c4 : decide (k < j) = false := decide_eq_false (by omega)
    go_wp2
    go_ret
    exact ⟨retB (by simp), b1⟩

/-! The walk. -/
theorem walk (a0 : Int) (a1 : Int) (a2 : Int) (a3 : Int) (a4 : Int) (a5 : Int) (w : World) (w0 : (Lit.int .u8 a0).wf = true) (w1 : (Lit.int .u8 a1).wf = true) (w2 : (Lit.int .u32 a2).wf = true) (w3 : (Lit.int .u32 a3).wf = true) (w4 : (Lit.int .u32 a4).wf = true) (w5 : (Lit.int .u32 a5).wf = true) :
    Calls Try.prog 7 #[.int .u8 a0, .int .u8 a1, .int .u32 a2, .int .u32 a3, .int .u32 a4, .int .u32 a5] w fun e w' => e = .returned (.bool true) ∧ Below w.heap.size w w' := by
  obtain ⟨a, ha, rfl⟩ := u8_nat w0
  obtain ⟨b, hb, rfl⟩ := u8_nat w1
  obtain ⟨s, hs, rfl⟩ := u32_nat w2
  obtain ⟨t, ht, rfl⟩ := u32_nat w3
  obtain ⟨g, hg, rfl⟩ := u32_nat w4
  obtain ⟨h, hh, rfl⟩ := u32_nat w5
  exact core a b s t g h _ _ _ _ _ _ hs ht rfl rfl rfl rfl rfl rfl w

/-! The row's step. -/
set_option maxRecDepth 100000 in
theorem lifted (os : Os) (started : os.Started) (H : Type) (enc : TypeId × Value → H) :
    ReturnsInHanded {} Try.checked os 7 .any (Rows.handleApartSpec.pre6 enc Try.prog Try.f7 Rows.handleApartRow.domain false) (Rows.handleApartSpec.post enc Try.prog Try.f7 false true false false) := by
  refine returnsInHanded_of_change (C := Try.checked) own started (by kernel_rfl) Try.func7
    (ChangeSpec.witness6 (enc := enc) (C := Try.checked) false ⟨#[], #[.int .u8 0, .int .u8 0, .int .u32 0, .int .u32 0, .int .u32 0, .int .u32 0], []⟩ 8 (by kernel_rfl) (by kernel_rfl) (by kernel_rfl) (by kernel_rfl)) ?_
  intro W base args ds gs before hval0 hW hcnd _
  have hval : ∀ (j : Nat) t v, Try.f7.params[j]? = some t → args[j]? = some v → Value.okWide Try.prog W .any base t v := hval0
  have hW' := hW
  obtain ⟨p, q, hA0, hV, rfl, hfz, hnd⟩ := hW
  have hA : DataW.TrodAll enc Try.prog W 0 (fun _ => true) true Try.f7.params.toList args.toList ds p := hA0
  rw [Try.params7] at hA hval
  obtain ⟨v0, vs0, d0, ds0, p0, q0, hargs, rfl, rfl, h0, r0⟩ := trodAll_cons hA
  obtain ⟨v1, vs1, d1, ds1, p1, q1, rfl, rfl, rfl, h1, r1⟩ := trodAll_cons r0
  obtain ⟨v2, vs2, d2, ds2, p2, q2, rfl, rfl, rfl, h2, r2⟩ := trodAll_cons r1
  obtain ⟨v3, vs3, d3, ds3, p3, q3, rfl, rfl, rfl, h3, r3⟩ := trodAll_cons r2
  obtain ⟨v4, vs4, d4, ds4, p4, q4, rfl, rfl, rfl, h4, r4⟩ := trodAll_cons r3
  obtain ⟨v5, vs5, d5, ds5, p5, q5, rfl, rfl, rfl, h5, r5⟩ := trodAll_cons r4
  obtain ⟨rfl, rfl, rfl⟩ := trodAll_nil r5
  obtain rfl : args = #[v0, v1, v2, v3, v4, v5] := by cases args; simp_all
  obtain ⟨rfl, rfl⟩ := trodVars_none hV
  obtain ⟨a0, rfl, rfl, rfl, w0⟩ := open_int Try.underlying5 (hval 0 5 v0 rfl rfl) h0
  obtain ⟨a1, rfl, rfl, rfl, w1⟩ := open_int Try.underlying5 (hval 1 5 v1 rfl rfl) h1
  obtain ⟨a2, rfl, rfl, rfl, w2⟩ := open_int Try.underlying30 (hval 2 30 v2 rfl rfl) h2
  obtain ⟨a3, rfl, rfl, rfl, w3⟩ := open_int Try.underlying30 (hval 3 30 v3 rfl rfl) h3
  obtain ⟨a4, rfl, rfl, rfl, w4⟩ := open_int Try.underlying30 (hval 4 30 v4 rfl rfl) h4
  obtain ⟨a5, rfl, rfl, rfl, w5⟩ := open_int Try.underlying30 (hval 5 30 v5 rfl rfl) h5
  clear hA0 hval0
  refine (walk a0 a1 a2 a3 a4 a5 W w0 w1 w2 w3 w4 w5).mono fun e W' ⟨he, bel⟩ => ?_
  subst he
  exact ⟨_, rfl, _, _, _, [], _, [], hW', trodAll_mk1 (shut_bool Try.underlying4 _), (trodAll_cons_mk (shut_int Try.underlying5 w0) (trodAll_cons_mk (shut_int Try.underlying5 w1) (trodAll_cons_mk (shut_int Try.underlying30 w2) (trodAll_cons_mk (shut_int Try.underlying30 w3) (trodAll_cons_mk (shut_int Try.underlying30 w4) (trodAll_cons_mk (shut_int Try.underlying30 w5) trodAll_mk0)))))), rfl, bel.frame _, fun h => by cases h⟩

theorem over : Rows.handleApartRow.holds Try.pinned (OpenSpec.ofChange Rows.handleApartSpec) :=
  OpenClaim.holds_of_wide 7 Try.f7 rfl rfl rfl rfl rfl rfl rfl ⟨rfl, rfl, rfl, rfl, rfl⟩ rfl rfl rfl rfl rfl (by kernel_rfl) Try.func7 (by kernel_rfl)
    (of_decide_eq_true (by kernel_rfl)) (by unfold Func.isWrapper; first | (rw [if_pos (by decide +kernel)]; kernel_rfl) | (rw [if_neg (by decide +kernel)]; exact ⟨rfl, rfl⟩))
    (fun os started H enc _ => lifted os started H enc)

/-- The statement. -/
theorem proved : Rows.HandleApartSaid := over
#print axioms proved
end Go.Proofs.Ytpcckdkebbdbbaa.handleApart
