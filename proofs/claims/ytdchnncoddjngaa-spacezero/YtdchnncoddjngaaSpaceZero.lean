/-
  SpaceZero is true whatever the input: what is zeroed is 0 and nothing else is changed, and all of it zeroed all is 0; no conditions.
-/
import Derived.Test.YtdchnncoddjngaaRows
import Derived.WalkKit
import Derived.ProofKit
import Derived.OpenShut
import Derived.ShutString
import Derived.ChangeOld
import Derived.Below
import Derived.Test.YtdchnncoddjngaaLaw
namespace Go.Proofs.Ytdchnncoddjngaa.spaceZero
open Go.ChangeShapes Go.WideShapes Go.ChangeAt Go.RowKit
set_option linter.unusedVariables false

theorem own : ownKnob Try.prog.godebug = none := by kernel_rfl

theorem size_at {w0 w : World} {s P T : Nat} {f : Nat → UInt8} {O : Nat → Prop} (h : At w0 w s P T f O) (Z : Nat) (hZ : Z = P * 4096) :
    Calls Try.prog 26 #[.pointer (some ⟨s, 0, none⟩)] w fun e w' => e = .returned (.int .u64 (Z : Int)) ∧ w = w' := by
  subst hZ
  exact ssize_any h.sp
theorem rd_zr_all (f : Nat → UInt8) (a n Z : Nat) (h : a + n ≤ Z) : M.rd (M.zr f 0 Z) a n = List.replicate n 0 := by
  apply List.ext_getElem
  · simp [M.rd_length]
  · intro i h1 h2
    rw [M.rd_length] at h1
    rw [M.rd_get]
    unfold M.zr
    rw [if_pos (by omega)]
    simp
theorem rd_zr_in (f : Nat → UInt8) (a k n i : Nat) (h : i < k) (hi : i < (M.rd (M.zr f a k) a n).length) : (M.rd (M.zr f a k) a n)[i] = 0 := by
  rw [M.rd_get]
  unfold M.zr
  rw [if_pos (by omega)]
theorem rd_zr_out (f : Nat → UInt8) (a k n : Nat) : M.rd (M.zr f a k) (a + k) n = M.rd f (a + k) n :=
  M.rd_congr _ _ _ _ fun i hi => by unfold M.zr; rw [if_neg (by omega)]

/-! The walk. -/
set_option maxHeartbeats 1000000 in
theorem walk (a0 : Int) (a1 : Option Addr) (len1 cap1 : Nat) (a2 : Int) (a3 : Int) (w : World) (w0 : (Lit.int .u8 a0).wf = true) (w1 : IsActs w a1 len1) (w2 : (Lit.int .u16 a2).wf = true) (w3 : (Lit.int .u16 a3).wf = true) :
    Calls Try.prog 6 #[.int .u8 a0, .slice a1 len1 cap1, .int .u16 a2, .int .u16 a3] w fun e w' => e = .returned (.bool true) ∧ Below w.heap.size w w' := by
  obtain ⟨p, hp, rfl⟩ := u8_nat w0
  obtain ⟨hlen, ls, hls, hacts⟩ := w1
  obtain ⟨a, ha, rfl⟩ := u16_nat w2
  obtain ⟨n, hn, rfl⟩ := u16_nat w3
  have HA := Lib.hid (show len1 = ls.length ∧ Acts w a1 ls from ⟨hls, hacts⟩)
  clear w0 w2 w3 hls hacts
  obtain ⟨k, hk⟩ : ∃ k : Nat, (n : Int) % 8200 = (k : Int) := ⟨n % 8200, by omega⟩
  have hk9 : k < 8200 := by omega
  obtain ⟨m, hm⟩ : ∃ m : Nat, (k : Int) + 10 = (m : Int) := ⟨k + 10, by omega⟩
  have hm9 : m = k + 10 := by omega
  have HM := Lib.hid hm9
  have hmb : m < 8210 := by omega
  clear hm9
  go_enter Try.func6, Try.ntmps6
  go_wp2_with fail
  refine (awake_any _).mono ?_
  rintro e w1 ⟨rfl, b1⟩
  have B1 := Lib.hid b1
  clear b1
  go_wp2_with fail
  refine (few_any w1 a1 ls len1 cap1 HA.out.1 (HA.out.2.below B1.out) hlen).mono ?_
  rintro e w' ⟨rfl, rfl⟩
  by_cases hf : fewB ls = true
  · have hl30 := fewB_len hf
    go_wp2_with fail
    refine (at_new (w0 := w) B1.out _ (p + 32) (by omega)).mono ?_
    rintro e w2 ⟨s, O2, rfl, A2⟩
    have H2 := Lib.hid A2
    clear A2
    go_wp2_with fail
    refine (at_play HA.out.1 HA.out.2 (by have := HA.out.1; omega) H2.out (by omega)).mono ?_
    rintro e w3 ⟨rfl, f, T, O, hT, A3, _, _⟩
    have t1 := A3.tl a m (by omega)
    have t2 := A3.tl a k (by omega)
    have t3 := A3.tl 0 ((p + 32) * 4096) (by omega)
    have HT := Lib.hid (show T ≤ 0 + 125829120 ∧ M.touched a m ≤ 1048578 ∧ M.touched a k ≤ 1048578 ∧ M.touched 0 ((p + 32) * 4096) ≤ 1048578 from ⟨hT, t1, t2, t3⟩)
    have H3 := Lib.hid A3
    clear A3 hT t1 t2 t3
    go_wp2_with fail
    refine (at_load H3.out a m (by omega) (by omega) (by have := HT.out; omega)).mono ?_
    rintro e w4 ⟨g4, rfl, A4, L4, k4, _, _⟩
    have H4 := Lib.hid A4
    have HL4 := Lib.hid L4
    clear A4 L4 k4
    go_wp2_with fail
    refine (at_zero H4.out a k (by omega) (by have := HT.out; omega)).mono ?_
    rintro e w5 ⟨rfl, A5, k5⟩
    have HL5 := Lib.hid (HL4.out.kept k5)
    have H5 := Lib.hid A5
    clear A5 k5 HL4
    go_wp2_with fail
    refine (at_load H5.out a m (by omega) (by omega) (by have := HT.out; omega)).mono ?_
    rintro e w6 ⟨g6, rfl, A6, L6, k6, _, _⟩
    have HL6 := Lib.hid (HL5.out.kept k6)
    have HN6 := Lib.hid L6
    have H6 := Lib.hid A6
    obtain ⟨A', c', r1, l1⟩ := cut_from (some ⟨g6, 0, none⟩) m m k (k : Int) rfl (by omega) (Nat.le_refl _)
    obtain ⟨A'', c'', r2, l2⟩ := cut_from (some ⟨g4, 0, none⟩) m m k (k : Int) rfl (by omega) (Nat.le_refl _)
    have hmk : m - k = 10 := by have := HM.out; omega
    rw [hmk] at r1 r2
    obtain ⟨Q, hQ⟩ : ∃ Q, Q = M.rd f (a + k) 10 := ⟨_, rfl⟩
    have hQl : Q.length = 10 := by rw [hQ, M.rd_length]
    have d1 : (M.rd (M.zr f a k) a m).drop k = Q := by rw [M.rd_drop _ _ _ _ (by omega), hmk, rd_zr_out, hQ]
    have d2 : (M.rd f a m).drop k = Q := by rw [M.rd_drop _ _ _ _ (by omega), hmk, hQ]
    have q1 := fun q => conv_at (w6.drewN q) A' 10 Q c' hQl.symm (by
      have := l1 (w6.drewN q) (u8s (M.rd (M.zr f a k) a m)) (by rw [u8s_length, M.rd_length]) HN6.out.own.lies
      rw [← u8s_drop, d1] at this
      exact this)
    have q2 := fun q => conv_at (w6.drewN q) A'' 10 Q c'' hQl.symm (by
      have := l2 (w6.drewN q) (u8s (M.rd f a m)) (by rw [u8s_length, M.rd_length]) HL6.out.own.lies
      rw [← u8s_drop, d2] at this
      exact this)
    have hcell : ∀ i, i < k → w6.cell? ⟨g6, i, none⟩ = some (.int .u8 0) := fun i hi => by
      have hl : i < (M.rd (M.zr f a k) a m).length := by rw [M.rd_length]; omega
      rw [HN6.out.own.1 i hl, rd_zr_in f a k m i hi hl]
      rfl
    have HC := Lib.hid hcell
    clear A6 L6 k6 HL5 hcell l1 l2 d1 d2 hQ hQl hmk HL6 HN6
    go_wp2_with fail
    go_quiet (fail)
    clear q1 q2 r1 r2
    go_wp2_with fail
    have HC' := Lib.hid (show ∀ i, i < k → (w6.drewN nq).cell? ⟨g6, i, none⟩ = some (.int .u8 0) from HC.out)
    have H7 := Lib.hid (show At w (w6.drewN nq) s (p + 32) (T + M.touched a m + M.touched a k + M.touched a m) (M.zr f a k) O from ⟨H6.out.sp.drewN nq, below_drewN' H6.out.bel nq, H6.out.old⟩)
    generalize hw7 : w6.drewN nq = w7 at *
    clear HC H6 H5 H4 H3 H2 hw7
    go_loop [19] (fun i => ∃ j : Nat, j ≤ k ∧ i = .int .i64 j) (fun i => k - (intOf i).toNat)
    case atStart => exact ⟨0, by omega, rfl⟩
    case round =>
      obtain ⟨j, hj, rfl⟩ := hrel
      by_cases hlt : j < k
      · have hc := HC'.out j hlt
        have hjm : j < m := by have := HM.out; omega
        go_wp2_with fail
        go_round
        case rel => exact ⟨j + 1, by omega, by go_num⟩
        case measure => simp [intOf]; omega
      · obtain ⟨Z, hZ⟩ : ∃ Z, Z = (p + 32) * 4096 := ⟨_, rfl⟩
        have HZ := Lib.hid hZ
        clear hZ
        go_wp2_with fail
        refine (size_at H7.out Z HZ.out).mono ?_
        rintro e w' ⟨rfl, rfl⟩
        go_wp2_with fail
        refine (at_zero H7.out 0 Z (by have := HZ.out; omega) (by have := HT.out; omega)).mono ?_
        rintro e w8 ⟨rfl, A8, k8⟩
        have H8 := Lib.hid A8
        have tz : M.touched 0 Z ≤ 1048578 := by rw [HZ.out]; exact HT.out.2.2.2
        have TZ := Lib.hid tz
        clear A8 k8 tz
        go_wp2_with fail
        refine (at_load H8.out a 64 (by omega) (by omega) (by have := HT.out; have := TZ.out; omega)).mono ?_
        rintro e w9 ⟨g9, rfl, A9, L9, k9, _, _⟩
        rw [rd_zr_all _ _ _ _ (by have := HZ.out; omega)] at L9
        have B9 := Lib.hid A9.bel
        obtain ⟨ob, hob⟩ : ∃ ob, ob = Obj.cells (madeCells #[.int .u8 0] 64) 5 := ⟨_, rfl⟩
        have hmk : ∀ W, (Instr.makeSlice 32 (.int .i64 64) (.int .i64 64)).run Try.prog W = .ok (.slice (some ⟨W.heap.size, 0, none⟩) 64 64) (W.alloc ob) := fun W => by
          rw [hob]
          exact make22 64 64 rfl (by omega) W
        obtain ⟨Y, hY⟩ : ∃ Y : List UInt8, Y = List.replicate 64 0 := ⟨_, rfl⟩
        have hYl : Y.length = 64 := by rw [hY]; exact List.length_replicate ..
        rw [← hY] at L9
        have q1 : (convert 32 9 (.slice (some ⟨g9, 0, none⟩) 64 64)).run Try.prog w9.drew = .ok (.string ⟨Y.toArray⟩) w9.drew := conv_at w9.drew _ 64 Y 64 hYl.symm L9.own.lies
        have q2 : (convert 32 9 (.slice (some ⟨g9, 0, none⟩) 64 64)).run Try.prog (w9.alloc ob).drew = .ok (.string ⟨Y.toArray⟩) (w9.alloc ob).drew := conv_at (w9.alloc ob).drew _ 64 Y 64 hYl.symm (L9.own.lies.alloc ob)
        have q3 : (convert 32 9 (.slice (some ⟨w9.heap.size, 0, none⟩) 64 64)).run Try.prog (w9.alloc ob).drew = .ok (.string ⟨Y.toArray⟩) (w9.alloc ob).drew := conv_at (w9.alloc ob).drew _ 64 Y 64 hYl.symm (by
          have := own_made 64 w9
          rw [← hob, ← hY] at this
          exact this.lies)
        clear A9 L9 k9 hob hY hYl H7 H8
        go_wp2_with fail
        go_region
        all_goals go_wp2
        all_goals go_ret
        all_goals exact ⟨rfl, (B9.out.alloc B9.out.size ob).drew⟩
  · have hf' : fewB ls = false := by simpa using hf
    clear hf
    go_wp2
    go_ret
    exact ⟨rfl, B1.out⟩

/-! The row's step. -/
set_option maxRecDepth 100000 in
theorem lifted (os : Os) (started : os.Started) (H : Type) (enc : TypeId × Value → H) :
    ReturnsInHanded {} Try.checked os 6 .any (Rows.spaceZeroSpec.pre6 enc Try.prog Try.f6 Rows.spaceZeroRow.domain false) (Rows.spaceZeroSpec.post enc Try.prog Try.f6 false true false false) := by
  refine returnsInHanded_of_change (C := Try.checked) own started (by kernel_rfl) Try.func6
    (ChangeSpec.witness6 (enc := enc) (C := Try.checked) false ⟨#[], #[.int .u8 0, .slice none 0 0, .int .u16 0, .int .u16 0], []⟩ 8 (by kernel_rfl) (by kernel_rfl) (by kernel_rfl) (by kernel_rfl)) ?_
  intro W base args ds gs before hval0 hW hcnd _
  have hval : ∀ (j : Nat) t v, Try.f6.params[j]? = some t → args[j]? = some v → Value.okWide Try.prog W .any base t v := hval0
  have hW' := hW
  obtain ⟨p, q, hA0, hV, rfl, hfz, hnd⟩ := hW
  have hA : DataW.TrodAll enc Try.prog W 0 (fun _ => true) true Try.f6.params.toList args.toList ds p := hA0
  rw [Try.params6] at hA hval
  obtain ⟨v0, vs0, d0, ds0, p0, q0, hargs, rfl, rfl, h0, r0⟩ := trodAll_cons hA
  obtain ⟨v1, vs1, d1, ds1, p1, q1, rfl, rfl, rfl, h1, r1⟩ := trodAll_cons r0
  obtain ⟨v2, vs2, d2, ds2, p2, q2, rfl, rfl, rfl, h2, r2⟩ := trodAll_cons r1
  obtain ⟨v3, vs3, d3, ds3, p3, q3, rfl, rfl, rfl, h3, r3⟩ := trodAll_cons r2
  obtain ⟨rfl, rfl, rfl⟩ := trodAll_nil r3
  obtain rfl : args = #[v0, v1, v2, v3] := by cases args; simp_all
  obtain ⟨rfl, rfl⟩ := trodVars_none hV
  obtain ⟨a0, rfl, rfl, rfl, w0⟩ := open_int Try.underlying5 (hval 0 5 v0 rfl rfl) h0
  obtain ⟨a1, len1, cap1, rfl⟩ := okWide_slice Try.underlying22 (hval 1 22 v1 rfl rfl)
  have k1 := h1
  have lt1 : ∀ x ∈ p1, x.block < W.heap.size := by obtain ⟨m, hm⟩ := k1; exact DataW.trod_lt m _ _ _ hm
  have w1 : IsActs W a1 len1 := by
    obtain ⟨fuel, hf⟩ := h1
    obtain ⟨A, l, c, hcs, hw⟩ := acts_open hf
    simp [Value.cells] at hcs
    obtain ⟨rfl, rfl, rfl⟩ := hcs
    exact hw
  obtain ⟨a2, rfl, rfl, rfl, w2⟩ := open_int Try.underlying55 (hval 2 55 v2 rfl rfl) h2
  obtain ⟨a3, rfl, rfl, rfl, w3⟩ := open_int Try.underlying55 (hval 3 55 v3 rfl rfl) h3
  clear hA0 hval0
  refine (walk a0 a1 len1 cap1 a2 a3 W w0 w1 w2 w3).mono fun e W' ⟨he, bel⟩ => ?_
  subst he
  exact ⟨_, rfl, _, _, _, [], _, [], hW', trodAll_mk1 (shut_bool Try.underlying4 _), (trodAll_cons_mk (shut_int Try.underlying5 w0) (trodAll_cons_mk (Below.trod laidOut (by kernel_rfl) (of_decide_eq_true (by kernel_rfl)) k1 bel lt1) (trodAll_cons_mk (shut_int Try.underlying55 w2) (trodAll_cons_mk (shut_int Try.underlying55 w3) trodAll_mk0)))), rfl, bel.frame _, fun h => by cases h⟩

theorem over : Rows.spaceZeroRow.holds Try.pinned (OpenSpec.ofChange Rows.spaceZeroSpec) :=
  OpenClaim.holds_of_wide 6 Try.f6 rfl rfl rfl rfl rfl rfl rfl ⟨rfl, rfl, rfl, rfl, rfl⟩ rfl rfl rfl rfl rfl (by kernel_rfl) Try.func6 (by kernel_rfl)
    (of_decide_eq_true (by kernel_rfl)) (by unfold Func.isWrapper; first | (rw [if_pos (by decide +kernel)]; kernel_rfl) | (rw [if_neg (by decide +kernel)]; exact ⟨rfl, rfl⟩))
    (fun os started H enc _ => lifted os started H enc)

/-- The statement. -/
theorem proved : Rows.SpaceZeroSaid := over
#print axioms proved
end Go.Proofs.Ytdchnncoddjngaa.spaceZero
