/-
  PileCut: a pile that is cut to so many has the first ones that were pushed; cut to none, all is free or kept; for every input the law returns true, and the arguments read behind the call as they read before. No condition.
-/
import Derived.Test.YtmagdhcpbofkbaaRows
import Derived.WalkKit
import Derived.ProofKit
import Derived.OpenShut
import Derived.ShutString
import Derived.ChangeOld
import Derived.Below
import Derived.Test.YtmagdhcpbofkbaaK14
namespace Go.Proofs.Ytmagdhcpbofkbaa.pileCut
open Go.ChangeShapes Go.WideShapes Go.ChangeAt Go.RowKit
set_option linter.unusedVariables false

theorem own : ownKnob Try.prog.godebug = none := by kernel_rfl

/-! The walk. -/
set_option maxRecDepth 20000 in
set_option maxHeartbeats 8000000 in
theorem walk (a0 : Option Addr) (len0 cap0 : Nat) (z0 : List Int) (a1 : Int) (w : World) (w0 : IsRow .u8 w a0 len0 cap0 z0) (w1 : (Lit.int .u8 a1).wf = true) :
    Calls Try.prog 4 #[.slice a0 len0 cap0, .int .u8 a1] w fun e w' => e = .returned (.bool true) ∧ Below w.heap.size w w' := by
  obtain ⟨ks, hks, hkb, hkc⟩ := bytes14 w0
  obtain ⟨n0, hn0, rfl⟩ := u8_nat w1
  have HA := Lib.hid (And.intro hks (And.intro hkb hkc))
  clear w0 w1 hks hkb hkc
  go_enter Try.func4, Try.ntmps4
  go_wp2_with fail
  refine (awake14_any _).mono ?_
  rintro e w1 ⟨rfl, b1⟩
  have B1 := Lib.hid b1
  clear b1
  by_cases h20 : 20 < len0
  · have d20 : decide (20 < (len0 : Int)) = true := by simp; omega
    go_wp2_with fail
    go_ret
    exact ⟨rfl, B1.out⟩
  have d20 : decide (20 < (len0 : Int)) = false := by simp; omega
  go_wp2_with fail
  clear d20
  refine (cnew_any B1.out 2000 2000 (by decide)).mono ?_
  rintro e w2 ⟨s, a, b, c, Q0, rfl, h2, _, _, _⟩
  have H2 := Lib.hid h2
  clear h2
  go_wp2_with fail
  refine (pnew_any w2 (some ⟨s, 0, none⟩) 0 5).mono ?_
  rintro e w3 ⟨rfl, x3, b3⟩
  have H3 := Lib.hid (show St2 w w3 s a b c 2000 (St.new 2000) (fun _ => False) (30 * 0) w2.heap.size 0 5 [] 0 0 0 [] ∧ Lim (St.new 2000) [] [] 0 0 from ⟨t_new (w' := w3) H2.out b3 x3, Lim.new _⟩)
  clear x3 b3 H2
  generalize w2.heap.size = p at *
  go_wp2_with fail
  go_loopw [8, 9, 10, 11] (fun i _ _ _ wr => ∃ (j : Nat) (Z : St) (L : List M.R), j ≤ len0 ∧ i = .int .i64 (j : Int) ∧ Hid (St2 w wr s a b c 2000 Z (fun _ => False) (30 * j) p 0 5 L 0 0 0 [] ∧ Lim Z L [] j 0)) (fun i _ _ _ _ => len0 - (intOf i).toNat)
  case atStart => exact ⟨0, _, [], by omega, rfl, H3⟩
  case round =>
    clear H3
    obtain ⟨j, Z, L, hj, rfl, HI⟩ := hrel
    by_cases hlt : j < len0
    · have hjk : j < ks.length := by have := HA.out.1; omega
      obtain ⟨ad0, rfl, hc0⟩ := HA.out.2.2 (by omega)
      have f0 := hc0 j hjk
      have hk8 := HA.out.2.1 _ (List.getElem_mem hjk)
      generalize ks[j] = kk at *
      have e0 : wr.cell? (ad0.add j) = some (.int .u8 (kk : Int)) := (HI.out.1.bel.cell (lt_of_cell f0)).trans f0
      clear f0 hc0
      have hj20 : j < 20 := by omega
      obtain ⟨pg, hpg⟩ : ∃ z : Int, z = (kk : Int) % 70 + 1 := ⟨_, rfl⟩
      have HPG := Lib.hid (show 1 ≤ pg ∧ pg ≤ 70 by omega)
      have LP := Lib.hid (HI.out.2.push HI.out.1.du (by omega) (by omega) (by omega) HPG.out.1 HPG.out.2 (by omega))
      go_wp2_with fail
      rw [← hpg]
      clear hpg e0
      refine (t_push HI.out.1 (by omega) (by have := HI.out.2.tk; omega) (by omega) (by have := HI.out.2.ll; omega) pg).mono ?_
      rintro e w4 ⟨rfl, h4, _⟩
      rw [LP.out.2.1] at h4
      rw [LP.out.1]
      have H4 := Lib.hid (And.intro h4 LP.out.2.2)
      clear h4
      go_wp2_with fail
      go_roundw
      case rel => exact ⟨j + 1, _, _, hlt, by go_num, Lib.hid ⟨H4.out.1, H4.out.2⟩⟩
      case measure => simp [intOf]; omega
    · have hL20 : L.length ≤ 20 := by have := HI.out.2.ll; omega
      have HB := Lib.hid (show L.length ≤ 20 ∧ Z.u ≤ 80 ∧ j ≤ 20 from ⟨hL20, by have := HI.out.2.tk; omega, by omega⟩)
      clear hL20
      go_wp2_with fail
      refine (t_walk HI.out.1 (by have := HB.out; omega) (by have := HB.out; omega) (by have := HB.out; omega)).mono ?_
      rintro e w5 ⟨t, A, cc, rfl, ht, h5, v5, _⟩
      have H5 := Lib.hid (And.intro h5 v5)
      have HT := Lib.hid ht
      have ht20 : t ≤ 20 := by rw [ht]; exact HB.out.1
      clear h5 v5 ht
      obtain ⟨m, hm⟩ : ∃ m, m = t - n0 := ⟨_, rfl⟩
      obtain ⟨k, hk⟩ : ∃ k, k = min n0 t := ⟨_, rfl⟩
      have hkm : k ≤ t ∧ m = t - k ∧ m ≤ t := by omega
      obtain ⟨A3, hcut, hrun⟩ := rcut14_any (L := L) (A := A) (c := cc) t m HT.out (by rw [HT.out]; exact H5.out.2.cap) hkm.2.2
      have HR := Lib.hid hrun
      have HM := Lib.hid (show m = L.length - n0 from by rw [hm, HT.out])
      have HC := Lib.hid hcut
      clear hrun hcut
      have w1 : wrap64 ((t : Int) - (k : Int)) = (m : Int) := by unfold wrap64; omega
      have w2 : IntKind.i64.wrap ((t : Int) - (k : Int)) = (m : Int) := by rw [IntWalk.i64_in _ (by omega)]; omega
      have HW := Lib.hid (And.intro w1 w2)
      have HK := Lib.hid (show min (n0 : Int) (t : Int) = (k : Int) from by rw [hk]; omega)
      clear w1 w2 hm hkm hk
      go_upto_region 16 with fail
      rw [HK.out]
      go_wp2_with fail
      refine (t_cut H5.out.1 (by have := HB.out; omega) (by have := HB.out; simp only; omega) (by have := HB.out; omega) (n0 : Int) n0 m rfl HM.out).mono ?_
      rintro e w6 ⟨rfl, h6, k6⟩
      have hu6 : (popsZ 2000 { Z with u := Z.u + t } L m).u ≤ Z.u + t + 4 * m := popsZ_u 2000 m { Z with u := Z.u + t } L
      have hmt := HM.out
      have H6 := Lib.hid (show _ ∧ _ ∧ _ from ⟨h6, H5.out.2.keptR k6 (fun x e => .inr e), (show (popsZ 2000 { Z with u := Z.u + t } L m).u ≤ 300 ∧ m ≤ 20 from by have := HB.out; omega)⟩)
      obtain ⟨Z6, hZ6⟩ : ∃ z, z = popsZ 2000 { Z with u := Z.u + t } L m := ⟨_, rfl⟩
      rw [← hZ6] at H6
      clear h6 k6 hu6 hZ6 hmt
      have HMB := Lib.hid H6.out.2.2.2
      go_wp2_with fail
      refine (t_walk H6.out.1 (by have := HB.out; have := H6.out.2.2; omega) (by have := HB.out; have := H6.out.2.2; rw [List.length_drop]; omega) (by have := HB.out; rw [List.length_drop]; omega)).mono ?_
      rintro e w7 ⟨t2, A2, cc2, rfl, ht2, h7, v7, k7⟩
      have ht2' : t2 = t - m := by rw [ht2, List.length_drop, HT.out]
      have H7 := Lib.hid (show _ ∧ _ ∧ _ ∧ _ ∧ _ from ⟨h7, v7, H6.out.2.1.keptR k7 (fun x e => .inr e), ht2, ht2'.symm.trans ht2⟩)
      have HU := Lib.hid (show ({ Z6 with u := Z6.u + t2 } : St).u ≤ 400 from by
        have := H6.out.2.2
        have := HB.out
        have h9 : t2 ≤ 20 := by rw [ht2, List.length_drop]; omega
        show Z6.u + t2 ≤ 400
        omega)
      obtain ⟨Z7, hZ7⟩ : ∃ z : St, z = { Z6 with u := Z6.u + t2 } := ⟨_, rfl⟩
      rw [← hZ7] at H7 HU
      have hcut := HC.out
      have w1 := HW.out.1
      have w2 := HW.out.2
      have hm0 : (0 : Int) ≤ (m : Int) := by omega
      clear h7 v7 k7 ht2 ht2' hZ7
      go_wp2_with fail
      refine (same_eq14 w7 A2 A3 (L.drop m) t2 cc2 (t - m) (cc - m) H7.out.2.2.2.1 H7.out.2.2.2.2 H7.out.2.1.runs (HR.out _ H7.out.2.2.1.runs) (by have := H7.out.2.2.2.1; rw [List.length_drop] at this; have := HB.out; omega)).mono ?_
      rintro e w8 ⟨rfl, b8⟩
      have H8 := Lib.hid (H7.out.1.below b8)
      clear b8 hcut w1 w2 hm0
      go_wp2_with fail
      refine (pcut_neg _ none (-1) (by omega)).mono ?_
      rintro e w' ⟨rfl, rfl⟩
      go_wp2_with fail
      refine (t_cut H8.out (by have := HB.out; have := HMB.out; rw [List.length_drop]; omega) (by have := HB.out; have := HU.out; rw [List.length_drop]; omega) (by have := HB.out; rw [List.length_drop]; omega) 0 0 (L.drop m).length rfl (by omega)).mono ?_
      rintro e w9 ⟨rfl, h9, _⟩
      rw [List.drop_length] at h9
      have H9 := Lib.hid h9
      clear h9
      go_wp2_with fail
      refine (t_len H9.out).mono ?_
      rintro e w' ⟨rfl, rfl⟩
      simp only [List.length_nil]
      go_wp2_with fail
      refine (t_pages H9.out (by simp)).mono ?_
      rintro e w10 ⟨rfl, b10⟩
      rw [show M.total ([] : List M.R) = 0 from rfl]
      have H10 := Lib.hid (H9.out.below b10)
      clear b10
      go_wp2_with fail
      refine (t_trim H10.out (by have := HB.out; have := HMB.out; rw [List.length_drop]; omega)).mono ?_
      rintro e w11 ⟨rfl, h11, _⟩
      have hdone := done14 H10.out.du (by omega)
      obtain ⟨Z11, hZ11⟩ : ∃ z, z = St.trim 2000 (popsZ 2000 Z7 (L.drop m) (L.drop m).length) := ⟨_, rfl⟩
      rw [← hZ11] at h11 hdone
      have H11 := Lib.hid h11
      have HD := Lib.hid hdone
      clear h11 hdone hZ11
      go_wp2_with fail
      refine (t_runs H11.out).mono ?_
      rintro e w12 ⟨A4, t4, c4, rfl, ht4, r4, b4⟩
      rw [HD.out] at ht4 r4
      obtain ⟨bl, o, rfl, hc4⟩ := r4 (by simp)
      have c1 := (hc4 0 (by simp)).2
      simp only [Nat.zero_mul, Nat.add_zero, List.getElem_cons_zero] at c1
      simp only [List.length_cons, List.length_nil] at ht4
      subst ht4
      have HE := Lib.hid (H11.out.below b4).bel
      clear b4 r4 hc4
      go_wp2_with fail
      go_ret
      exact ⟨rfl, HE.out⟩

/-! The row's step. -/
set_option maxRecDepth 100000 in
theorem lifted (os : Os) (started : os.Started) (H : Type) (enc : TypeId × Value → H) :
    ReturnsInHanded {} Try.checked os 4 .any (Rows.pileCutSpec.pre6 enc Try.prog Try.f4 Rows.pileCutRow.domain false) (Rows.pileCutSpec.post enc Try.prog Try.f4 false true false false) := by
  refine returnsInHanded_of_change (C := Try.checked) own started (by kernel_rfl) Try.func4
    (ChangeSpec.witness6 (enc := enc) (C := Try.checked) false ⟨#[], #[.slice none 0 0, .int .u8 0], []⟩ 8 (by kernel_rfl) (by kernel_rfl) (by kernel_rfl) (by kernel_rfl)) ?_
  intro W base args ds gs before hval0 hW hcnd _
  have hval : ∀ (j : Nat) t v, Try.f4.params[j]? = some t → args[j]? = some v → Value.okWide Try.prog W .any base t v := hval0
  have hW' := hW
  obtain ⟨p, q, hA0, hV, rfl, hfz, hnd⟩ := hW
  have hA : DataW.TrodAll enc Try.prog W 0 (fun _ => true) true Try.f4.params.toList args.toList ds p := hA0
  rw [Try.params4] at hA hval
  obtain ⟨v0, vs0, d0, ds0, p0, q0, hargs, rfl, rfl, h0, r0⟩ := trodAll_cons hA
  obtain ⟨v1, vs1, d1, ds1, p1, q1, rfl, rfl, rfl, h1, r1⟩ := trodAll_cons r0
  obtain ⟨rfl, rfl, rfl⟩ := trodAll_nil r1
  obtain rfl : args = #[v0, v1] := by cases args; simp_all
  obtain ⟨rfl, rfl⟩ := trodVars_none hV
  obtain ⟨a0, len0, cap0, rfl⟩ := okWide_slice Try.underlying22 (hval 0 22 v0 rfl rfl)
  have k0 := h0
  have lt0 : ∀ x ∈ p0, x.block < W.heap.size := by obtain ⟨m, hm⟩ := k0; exact DataW.trod_lt m _ _ _ hm
  obtain ⟨z0, w0⟩ : ∃ zs, IsRow .u8 W a0 len0 cap0 zs := by
    obtain ⟨fuel, hf⟩ := h0
    rcases open_ints Try.underlying22 Try.underlying5 (by kernel_rfl) hf with ⟨hcs, _⟩ | ⟨x, l, c, zs, hcs, _, hl, hm, hz, _, hcell, hwz⟩
    · simp [Value.cells] at hcs
      obtain ⟨rfl, rfl, rfl⟩ := hcs
      exact ⟨[], .inl ⟨rfl, rfl, rfl, rfl⟩⟩
    · simp [Value.cells] at hcs
      obtain ⟨rfl, rfl, rfl⟩ := hcs
      exact ⟨zs, .inr ⟨_, rfl, hl, hm, by simpa using hz, hcell, hwz⟩⟩
  obtain ⟨a1, rfl, rfl, rfl, w1⟩ := open_int Try.underlying5 (hval 1 5 v1 rfl rfl) h1
  clear hA0 hval0
  refine (walk a0 len0 cap0 z0 a1 W w0 w1).mono fun e W' ⟨he, bel⟩ => ?_
  subst he
  exact ⟨_, rfl, _, _, _, [], _, [], hW', trodAll_mk1 (shut_bool Try.underlying4 _), (trodAll_cons_mk (Below.trod laidOut (by kernel_rfl) (of_decide_eq_true (by kernel_rfl)) k0 bel lt0) (trodAll_cons_mk (shut_int Try.underlying5 w1) trodAll_mk0)), rfl, bel.frame _, fun h => by cases h⟩

theorem over : Rows.pileCutRow.holds Try.pinned (OpenSpec.ofChange Rows.pileCutSpec) :=
  OpenClaim.holds_of_wide 4 Try.f4 rfl rfl rfl rfl rfl rfl rfl ⟨rfl, rfl, rfl, rfl, rfl⟩ rfl rfl rfl rfl rfl (by kernel_rfl) Try.func4 (by kernel_rfl)
    (of_decide_eq_true (by kernel_rfl)) (by unfold Func.isWrapper; first | (rw [if_pos (by decide +kernel)]; kernel_rfl) | (rw [if_neg (by decide +kernel)]; exact ⟨rfl, rfl⟩))
    (fun os started H enc _ => lifted os started H enc)

/-- The statement. -/
theorem proved : Rows.PileCutSaid := over
#print axioms proved
end Go.Proofs.Ytmagdhcpbofkbaa.pileCut
