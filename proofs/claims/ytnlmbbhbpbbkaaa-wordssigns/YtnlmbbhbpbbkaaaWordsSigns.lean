/-
  Proved: for every input the statement WordsSigns returns true, and its arguments read as before. No condition beyond those of the statement.
-/
import Derived.Test.YtnlmbbhbpbbkaaaRows
import Derived.WalkKit
import Derived.ProofKit
import Derived.OpenShut
import Derived.ShutString
import Derived.ChangeOld
import Derived.Below
import Derived.Test.YtnlmbbhbpbbkaaaEx
import Derived.Deep.DeepCutAuto
namespace Go.Proofs.Ytnlmbbhbpbbkaaa.wordsSigns
open Go.ChangeShapes Go.WideShapes Go.ChangeAt Go.RowKit
open Go.ChangeMaps (open_string shut_string)
set_option linter.unusedVariables false

theorem own : ownKnob Try.prog.godebug = none := by kernel_rfl
theorem laidOut : laidOutB Try.prog = true := by kernel_rfl

theorem bcell {W w1 : World} (hb : Below W.heap.size W w1) : ∀ b o, b < W.heap.size → w1.cell? ⟨b, o, none⟩ = W.cell? ⟨b, o, none⟩ := fun b o h => hb.cell (p := ⟨b, o, none⟩) h
theorem bytes_one (k : Nat) (hk : k = 1 ∨ k = 2 ∨ k = 4 ∨ k = 8) (v n : Nat) (hv : v < 18446744073709551616) (he : M.enc k v = M.enc k n) (g c : Nat) (W : World) (hc : W.cell? ⟨g, 0, none⟩ = some (.int .u64 (v : Int))) :
    Calls Try.prog 18 #[.int .i64 k, .slice (some ⟨g, 0, none⟩) 1 c] W fun e w' => ∃ A' c', e = .returned (.slice A' k c') ∧ Lies w' A' (u8s (M.enc k n)) ∧ Below W.heap.size W w' := by
  have hl : Lies W (some ⟨g, 0, none⟩) (u64s [v]) := fun _ => ⟨_, rfl, fun j hj => by
    obtain rfl : j = 0 := by simp [u64s] at hj; omega
    exact hc⟩
  refine (bytes_any (k : Int) (some ⟨g, 0, none⟩) [v] c (by simp) (by simpa using hv) W hl).mono ?_
  rintro e w' ⟨A', c', rfl, h1, h2⟩
  rw [btsOf_wide hk, M.bts_one, he] at h1
  refine ⟨A', c', ?_, h1, h2⟩
  rw [btsOf_wide hk, M.bts_one, M.enc_length]
theorem pow_width (kk : Nat) : ∃ k : Nat, wrap64 (2 ^ (kk % 4)) = (k : Int) ∧ (k = 1 ∨ k = 2 ∨ k = 4 ∨ k = 8) := by
  rcases (show kk % 4 = 0 ∨ kk % 4 = 1 ∨ kk % 4 = 2 ∨ kk % 4 = 3 by omega) with h | h | h | h <;> rw [h]
  · exact ⟨1, by simp [wrap64], by omega⟩
  · exact ⟨2, by simp [wrap64], by omega⟩
  · exact ⟨4, by simp [wrap64], by omega⟩
  · exact ⟨8, by simp [wrap64], by omega⟩
theorem sgn_mod (k n : Nat) (hk : k = 1 ∨ k = 2 ∨ k = 4 ∨ k = 8) : ∃ v : Nat, IntKind.u64.wrap (M.sgn k n) = (v : Int) ∧ v < 18446744073709551616 ∧ M.enc k v = M.enc k n := by
  refine ⟨(IntKind.u64.wrap (M.sgn k n)).toNat, ?_, ?_, M.enc_eq _ _ _ ?_⟩
  · rw [wrapU]; omega
  · rw [wrapU]; omega
  · rw [wrapU]
    unfold M.sgn
    rcases hk with rfl | rfl | rfl | rfl <;> simp only [Nat.reducePow, Nat.reduceDiv] <;> split <;> omega
theorem signed_at (n : Nat) (x : Int) (k : Nat) (s : Int) (ex : x = k) (hk : k = 1 ∨ k = 2 ∨ k = 4 ∨ k = 8) (es : M.sgn k n = s) (hn : n < 18446744073709551616) (w : World) :
    Calls Try.prog 16 #[.int .u64 n, .int .i64 x] w fun e w' => e = .returned (.int .i64 s) ∧ w = w' := by
  have := signed_any n k hn w
  rw [if_pos (M.wide_nat hk)] at this
  subst ex es
  exact this
theorem le_alloc (w : World) (o : Obj) : w.heap.size ≤ (w.alloc o).heap.size := by simp
/-- A world that a call leaves, held against one from which its world was grown. -/
theorem below_call {a W w' : World} (h : Below a.heap.size a W) (hb : Below W.heap.size W w') : Below a.heap.size a w' := h.trans (hb.mono h.size)
theorem sgn_twice (k n v : Nat) (s : Int) (hk : k = 1 ∨ k = 2 ∨ k = 4) (hs : M.sgn k n = s) (hv : IntKind.u64.wrap s = (v : Int)) : M.sgn (2 * k) v = s := by
  rw [wrapU] at hv
  subst hs
  unfold M.sgn at *
  rcases hk with rfl | rfl | rfl <;> simp only [Nat.reduceMul, Nat.reducePow, Nat.reduceDiv] at * <;> split at hv <;> split <;> omega
theorem sgn_whole (n v : Nat) (s : Int) (hn : n < 18446744073709551616) (hs : M.sgn 8 n = s) (hv : IntKind.u64.wrap s = (v : Int)) : v = n := by
  rw [wrapU] at hv
  subst hs
  unfold M.sgn at *
  simp only [Nat.reducePow, Nat.reduceDiv] at *
  split at hv <;> omega
theorem sgn_range (k n : Nat) (h0 : k ≠ 0) (s : Int) (hs : M.sgn k n = s) : -((256 ^ k / 2 : Nat) : Int) ≤ s ∧ s < ((256 ^ k / 2 : Nat) : Int) := by
  have hp : 0 < 256 ^ k := Nat.pow_pos (by decide)
  have hm := Nat.mod_lt n hp
  obtain ⟨j, rfl⟩ : ∃ j, k = j + 1 := ⟨k - 1, by omega⟩
  have e : 256 ^ (j + 1) = 2 * (128 * 256 ^ j) := by rw [Nat.pow_succ]; omega
  subst hs
  unfold M.sgn
  generalize 256 ^ (j + 1) = p at *
  split <;> omega

/-! The walk. -/
set_option maxHeartbeats 1600000 in
theorem walk (a0 : Int) (a1 : Int) (w : World) (w0 : (Lit.int .u64 a0).wf = true) (w1 : (Lit.int .u8 a1).wf = true) :
    Calls Try.prog 6 #[.int .u64 a0, .int .u8 a1] w fun e w' => e = .returned (.bool true) ∧ Below w.heap.size w w' := by
  obtain ⟨n, hn, rfl⟩ := u64_nat w0
  obtain ⟨kk, hkk, rfl⟩ := u8_nat w1
  clear w0 w1
  obtain ⟨k, hkw, hk⟩ := pow_width kk
  obtain ⟨v, hv, hv64, hev⟩ := sgn_mod k n hk
  obtain ⟨s, hs⟩ : ∃ s : Int, M.sgn k n = s := ⟨_, rfl⟩
  have HS := Lib.hid hs
  rw [hs] at hv
  clear hs
  have HE := Lib.hid hev; clear hev
  have HK := Lib.hid hk; clear hk
  go_enter Try.func6, Try.ntmps6
  go_wp2_with fail
  refine (awake_any _).mono ?_
  rintro e w1 ⟨rfl, b1⟩
  have B1 := Lib.hid b1; clear b1
  go_wp2_with fail
  refine (signed_at n _ k s rfl HK.out HS.out hn _).mono ?_
  rintro e w' ⟨rfl, rfl⟩
  go_upto_region 6 with fail
  go_cut [28] (fun s28 wx => s28 = .bool false ∧ Below w1.heap.size w1 wx)
  case first =>
    go_region_with (first
      | (go_at_call 18
         refine (bytes_one k HK.out v n hv64 HE.out _ _ _ ?_).mono ?_
         · (simp [go_sem, *]; done)
         rintro e w2 ⟨A2, c2, rfl, hl2, hb2⟩
         have hq2 := conv_at w2 A2 k (M.enc k n) c2 (M.enc_length k n).symm hl2
         have hq2a := fun o => conv_at (w2.alloc o) A2 k (M.enc k n) c2 (M.enc_length k n).symm (hl2.alloc o)
         have hB2 : Below w1.heap.size w1 w2 := below_call (by repeat (first | exact Below.refl _ _ | refine Below.drew ?_ | refine Below.alloc ?_ (by simp) _)) hb2
         have hc2 := bcell hb2)
      | (go_at_call 18
         refine (bytes_one k HK.out n n hn rfl _ _ _ ?_).mono ?_
         · (simp [go_sem, *]; done)
         rintro e w3 ⟨A3, c3, rfl, hl3, hb3⟩
         have hq3 := conv_at w3 A3 k (M.enc k n) c3 (M.enc_length k n).symm hl3
         have hl23 : Lies w3 A2 (u8s (M.enc k n)) := (by first | exact hl2.below hb3 | exact (hl2.alloc _).below hb3)
         have hB3 : Below w1.heap.size w1 w3 := below_call (by first | exact hB2 | exact hB2.alloc hB2.size _) hb3
         have hq23 := conv_at w3 A2 k (M.enc k n) c2 (M.enc_length k n).symm hl23))
    all_goals (go_wp2_with fail; go_meet; exact ⟨by simp, hB3⟩)
  case rest =>
    obtain ⟨rfl, hB⟩ := hcut
    have B3 := Lib.hid (B1.out.trans (hB.mono B1.out.size)); clear hB B1
    clear hkw
    rcases HK.out with rfl | rfl | rfl | rfl
    · have hr := sgn_range 1 n (by decide) s HS.out
      have h2 := sgn_twice 1 n v s (by omega) HS.out hv
      simp only [Nat.reducePow, Nat.reduceDiv] at hr
      have hr1 : -128 ≤ s := by omega
      have hr2 : s < 128 := by omega
      have H2 := Lib.hid h2; clear h2 hr
      go_wp2_with fail
      refine (signed_at v _ (2 * 1) s (by decide) (by omega) H2.out hv64 _).mono ?_
      rintro e w' ⟨rfl, rfl⟩
      go_wp2
      go_ret
      exact ⟨rfl, B3.out⟩
    · have hr := sgn_range 2 n (by decide) s HS.out
      have h2 := sgn_twice 2 n v s (by omega) HS.out hv
      simp only [Nat.reducePow, Nat.reduceDiv] at hr
      have hr1 : -32768 ≤ s := by omega
      have hr2 : s < 32768 := by omega
      have H2 := Lib.hid h2; clear h2 hr
      go_wp2_with fail
      refine (signed_at v _ (2 * 2) s (by decide) (by omega) H2.out hv64 _).mono ?_
      rintro e w' ⟨rfl, rfl⟩
      go_wp2
      go_ret
      exact ⟨rfl, B3.out⟩
    · have hr := sgn_range 4 n (by decide) s HS.out
      have h2 := sgn_twice 4 n v s (by omega) HS.out hv
      simp only [Nat.reducePow, Nat.reduceDiv] at hr
      have hr1 : -2147483648 ≤ s := by omega
      have hr2 : s < 2147483648 := by omega
      have H2 := Lib.hid h2; clear h2 hr
      go_wp2_with fail
      refine (signed_at v _ (2 * 4) s (by decide) (by omega) H2.out hv64 _).mono ?_
      rintro e w' ⟨rfl, rfl⟩
      go_wp2
      go_ret
      exact ⟨rfl, B3.out⟩
    · have h2 := sgn_whole n v s hn HS.out hv
      subst h2
      go_wp2
      go_ret
      exact ⟨rfl, B3.out⟩

/-! The row's step. -/
set_option maxRecDepth 100000 in
theorem lifted (os : Os) (started : os.Started) (H : Type) (enc : TypeId × Value → H) :
    ReturnsInHanded {} Try.checked os 6 .any (Rows.wordsSignsSpec.pre6 enc Try.prog Try.f6 Rows.wordsSignsRow.domain false) (Rows.wordsSignsSpec.post enc Try.prog Try.f6 false true false false) := by
  refine returnsInHanded_of_change (C := Try.checked) own started (by kernel_rfl) Try.func6
    (ChangeSpec.witness6 (enc := enc) (C := Try.checked) false ⟨#[], #[.int .u64 0, .int .u8 0], []⟩ 8 (by kernel_rfl) (by kernel_rfl) (by kernel_rfl) (by kernel_rfl)) ?_
  intro W base args ds gs before hval0 hW hcnd _
  have hval : ∀ (j : Nat) t v, Try.f6.params[j]? = some t → args[j]? = some v → Value.okWide Try.prog W .any base t v := hval0
  have hW' := hW
  obtain ⟨p, q, hA0, hV, rfl, hfz, hnd⟩ := hW
  have hA : DataW.TrodAll enc Try.prog W 0 (fun _ => true) true Try.f6.params.toList args.toList ds p := hA0
  rw [Try.params6] at hA hval
  obtain ⟨v0, vs0, d0, ds0, p0, q0, hargs, rfl, rfl, h0, r0⟩ := trodAll_cons hA
  obtain ⟨v1, vs1, d1, ds1, p1, q1, rfl, rfl, rfl, h1, r1⟩ := trodAll_cons r0
  obtain ⟨rfl, rfl, rfl⟩ := trodAll_nil r1
  obtain rfl : args = #[v0, v1] := by cases args; simp_all
  obtain ⟨rfl, rfl⟩ := trodVars_none hV
  obtain ⟨a0, rfl, rfl, rfl, w0⟩ := open_int Try.underlying23 (hval 0 23 v0 rfl rfl) h0
  obtain ⟨a1, rfl, rfl, rfl, w1⟩ := open_int Try.underlying5 (hval 1 5 v1 rfl rfl) h1
  clear hA0 hval0
  refine (walk a0 a1 W w0 w1).mono fun e W' ⟨he, bel⟩ => ?_
  subst he
  exact ⟨_, rfl, _, _, _, [], _, [], hW', trodAll_mk1 (shut_bool Try.underlying4 _), (trodAll_cons_mk (shut_int Try.underlying23 w0) (trodAll_cons_mk (shut_int Try.underlying5 w1) trodAll_mk0)), rfl, bel.frame _, fun h => by cases h⟩

theorem over : Rows.wordsSignsRow.holds Try.pinned (OpenSpec.ofChange Rows.wordsSignsSpec) :=
  OpenClaim.holds_of_wide 6 Try.f6 rfl rfl rfl rfl rfl rfl rfl ⟨rfl, rfl, rfl, rfl, rfl⟩ rfl rfl rfl rfl rfl (by kernel_rfl) Try.func6 (by kernel_rfl)
    (of_decide_eq_true (by kernel_rfl)) (by unfold Func.isWrapper; first | (rw [if_pos (by decide +kernel)]; kernel_rfl) | (rw [if_neg (by decide +kernel)]; exact ⟨rfl, rfl⟩))
    (fun os started H enc _ => lifted os started H enc)

/-- The statement. -/
theorem proved : Rows.WordsSignsSaid := over
#print axioms proved
end Go.Proofs.Ytnlmbbhbpbbkaaa.wordsSigns
