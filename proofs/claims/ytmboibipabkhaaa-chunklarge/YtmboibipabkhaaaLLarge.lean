/-
  ChunkLarge is true whatever the input: large chunks have just the pages that are asked for, are never kept, and go back at once, and what is kept is given back for them; no conditions.
-/
import Derived.Test.YtmboibipabkhaaaRows
import Derived.WalkKit
import Derived.ProofKit
import Derived.OpenShut
import Derived.ShutString
import Derived.ChangeOld
import Derived.Below
import Derived.Test.YtmboibipabkhaaaK5
import Derived.Test.YtmboibipabkhaaaK11
namespace Go.Proofs.Ytmboibipabkhaaa.chunkLarge
open Go.ChangeShapes Go.WideShapes Go.ChangeAt Go.RowKit
set_option linter.unusedVariables false

theorem own : ownKnob Try.prog.godebug = none := by kernel_rfl

theorem shl3 (j : Nat) (h : j < 4) : wrap64 (2 ^ (j % 3)) = 1 ∨ wrap64 (2 ^ (j % 3)) = 2 ∨ wrap64 (2 ^ (j % 3)) = 4 := by
  have e : ∀ x : Int, 0 ≤ x → x ≤ 4 → wrap64 x = x := fun x h1 h2 => by unfold wrap64; omega
  have : j = 0 ∨ j = 1 ∨ j = 2 ∨ j = 3 := by omega
  rcases this with rfl | rfl | rfl | rfl
  · exact .inl (e 1 (by omega) (by omega))
  · exact .inr (.inl (e 2 (by omega) (by omega)))
  · exact .inr (.inr (e 4 (by omega) (by omega)))
  · exact .inl (e 1 (by omega) (by omega))

/-! The walk. -/
set_option maxRecDepth 20000 in
set_option maxHeartbeats 8000000 in
theorem walk (a0 : Int) (a1 : Int) (w : World) (w0 : (Lit.int .u16 a0).wf = true) (w1 : (Lit.int .u8 a1).wf = true) :
    Calls Try.prog 7 #[.int .u16 a0, .int .u8 a1] w fun e w' => e = .returned (.bool true) ∧ Below w.heap.size w w' := by
  obtain ⟨n0, hn0, rfl⟩ := u16_nat w0
  obtain ⟨n1, hn1, rfl⟩ := u8_nat w1
  clear w0 w1
  obtain ⟨N, hN⟩ : ∃ N : Nat, (N : Int) = (n0 : Int) % 3000 + 65 := ⟨n0 % 3000 + 65, by omega⟩
  have hNb : 65 ≤ N ∧ N ≤ 4000 := by omega
  have HNB := Lib.hid hNb
  obtain ⟨m, hm⟩ : ∃ m : Nat, (m : Int) = (n1 : Int) % 5 := ⟨n1 % 5, by omega⟩
  have HM := Lib.hid (show m ≤ 4 by omega)
  go_enter Try.func7, Try.ntmps7
  go_wp2_with fail
  refine (awake10_any _).mono ?_
  rintro e w1 ⟨rfl, b1⟩
  have B1 := Lib.hid b1
  clear b1
  go_upto_region 5 with fail
  rw [← hN]
  clear hN hNb
  go_wp2_with fail
  refine (cnew_any B1.out (N : Int) N (by have := HNB.out; omega)).mono ?_
  rintro e w2 ⟨s, a, b, c, Q0, rfl, h2, _, _, _⟩
  have H2 := Lib.hid (show Chk (rowD none) w w2 s a b c N (St.new N) Q0 (30 * 0) ∧ Lst w2 3 1 w.heap.size none 0 0 (ints10 (([] : List M.R).map (·.p))) Q0 s ∧ Lg1 N 0 (St.new N) [] from ⟨h2.noD rowD_none, Lst.none' _ _ _ _ _ _, Lg1.new N (by have := HNB.out; omega)⟩)
  clear h2
  go_wp2_with fail
  go_loopw [8, 9] (fun sl i wr => ∃ (j : Nat) (A : Option Addr) (cc : Nat) (Z : St) (Q : Nat → Prop) (got : List M.R), j ≤ m ∧ i = .int .i64 (j : Int) ∧ sl = .slice A j cc ∧ Hid (Chk (rowD A) w wr s a b c N Z Q (30 * j) ∧ Lst wr 3 1 w.heap.size A j cc (ints10 (got.map (·.p))) Q s ∧ Lg1 N j Z got)) (fun _ i _ => m - (intOf i).toNat)
  case atStart => exact ⟨0, none, 0, _, _, [], by omega, rfl, rfl, H2⟩
  case round =>
    obtain ⟨j, A, cc, Z, Q, got, hj, rfl, rfl, HI⟩ := hrel
    by_cases hlt : j < m
    · have hlt' : (j : Int) < (n1 : Int) % 5 := by omega
      obtain ⟨x, hx⟩ : ∃ x, x = wrap64 (2 ^ (j % 3)) := ⟨_, rfl⟩
      have hx3 : x = 1 ∨ x = 2 ∨ x = 4 := by
        rw [hx]
        have := HM.out
        exact shl3 j (by omega)
      have HX := Lib.hid hx3
      have ST := Lib.hid (HI.out.2.2.step (by have := HM.out; omega) HNB.out.1 (by have := HNB.out; omega) x hx3)
      have hj4 : j ≤ 4 := by have := HM.out; omega
      have HU := Lib.hid HI.out.2.2.u
      go_wp2_with fail
      rw [← hx]
      clear hx hx3
      refine (cget_any HI.out.1 (by omega) (by rw [HU.out]; omega) HI.out.2.2.inv x 0 1 (by have := HX.out; omega) (by have := HX.out; omega) (by omega) (by omega) (by omega)).mono ?_
      rintro e w4 ⟨rfl, h4, k4⟩
      rw [ST.out.1]
      obtain ⟨p, hp⟩ : ∃ p, p = getP N Z x := ⟨_, rfl⟩
      obtain ⟨n, hn⟩ : ∃ n, n = getN N Z x := ⟨_, rfl⟩
      rw [← hp, ← hn] at ST ⊢
      have H4 := Lib.hid (show Chk (rowD A) w w4 s a b c N (Z.get N x 0 1) (Wid Q wr w4) (30 * (j + 1)) ∧ Lst w4 3 1 w.heap.size A j cc (ints10 (got.map (·.p))) (Wid Q wr w4) s from ⟨h4, HI.out.2.1.call k4⟩)
      generalize Wid Q wr w4 = Q4 at *
      have hb5 : Below w4.heap.size w4 (w4.alloc (.cells #[.int .i64 p] 3)) := (Below.refl _ _).alloc (Nat.le_refl _) _
      have OWN := Lib.hid (H4.out.2.below hb5).row
      have SZ := Lib.hid (Nat.le_trans H4.out.1.bel.size hb5.size)
      obtain ⟨i3, hi, hi0, hi1, hi2⟩ := infoI
      have HI3 := Lib.hid (And.intro hi (And.intro hi0 (And.intro hi1 hi2)))
      clear h4 k4 hp hn hb5 hi hi0 hi1 hi2
      go_wp2_with (at_builtin; refine wpList_append_lies _ rfl _ _ 46 rfl w.heap.size 3 i3 (.int .i64 0) 1 8 Try.underlying46 HI3.out.1 HI3.out.2.1 HI3.out.2.2.1 HI3.out.2.2.2 rfl (by decide) (.slice A j cc) j (ints10 (got.map (·.p))) rfl OWN.out ⟨w4.heap.size, 0, none⟩ 1 1 (ints10 [p]) rfl rfl (num_cell10 w4 p) (ints10_one _) (by omega) (by unfold maxLen; omega) (by omega) SZ.out _ rfl ?_; intro g1 c1 w5 hrow hgr hat hlt5; (have HS := Lib.hid (H4.out.1.app1 H4.out.2 hrow hgr hat hlt5)); clear hrow hgr hat hlt5)
      go_roundw
      case rel => exact ⟨j + 1, some ⟨g1, 0, none⟩, c1, _, Q4, got ++ [⟨p, n⟩], by omega, by go_num, rfl, HS.out.1, by rw [List.map_append]; exact HS.out.2, ST.out.2⟩
      case measure => simp [intOf]; omega
    · have hjm : j = m := by omega
      subst hjm
      have hge : ¬ (j : Int) < (n1 : Int) % 5 := by omega
      have HG := Lib.hid (And.intro HI.out.1 (And.intro HI.out.2.1 HI.out.2.2.turn))
      clear HI hlt hm
      go_wp2_with fail
      clear hge
      go_loopw [13] (fun i wr => ∃ (y : Nat) (Z : St) (Q : Nat → Prop), y ≤ j ∧ i = .int .i64 (y : Int) ∧ Hid (Chk (rowD A) w wr s a b c N Z Q (30 * j + y) ∧ Lst wr 3 1 w.heap.size A j cc (ints10 (got.map (·.p))) Q s ∧ Lg2 N j y Z got)) (fun i _ => j - (intOf i).toNat)
      case atStart => exact ⟨0, Z, Q, by omega, rfl, HG⟩
      case round =>
        clear HG
        obtain ⟨y, Zy, Qy, hy, rfl, HI⟩ := hrel
        by_cases hlt : y < j
        · have hj4 : j ≤ 4 := HM.out
          have hyl : y < got.length := by have := HI.out.2.2.len; omega
          obtain ⟨g, hA, hc⟩ := HI.out.2.1.cell (j := y) (by simpa using hyl)
          rw [List.getElem_map] at hc
          have ST := Lib.hid (HI.out.2.2.step HM.out hlt hyl)
          generalize got[y].p = p at *
          generalize got[y].n = n at *
          have HU := Lib.hid HI.out.2.2.u
          subst hA
          go_wp2_with fail
          refine (cput_any HI.out.1 (by have := HM.out; omega) (by rw [HU.out]; have := HM.out; omega) p n ST.out.1).mono ?_
          rintro e w6 ⟨rfl, h6, k6⟩
          have H6 := Lib.hid (show Chk (rowD (some ⟨g, 0, none⟩)) w w6 s a b c N (Zy.put N p n) (Wid Qy wr w6) (30 * j + (y + 1)) ∧ Lst w6 3 1 w.heap.size (some ⟨g, 0, none⟩) j cc (ints10 (got.map (·.p))) (Wid Qy wr w6) s ∧ Lg2 N j (y + 1) (Zy.put N p n) got from ⟨h6, HI.out.2.1.call k6, ST.out.2⟩)
          clear h6 k6 hc
          go_wp2_with fail
          go_roundw
          case rel => exact ⟨y + 1, _, _, by omega, by go_num, H6⟩
          case measure => simp [intOf]; omega
        · have hyj : y = j := by omega
          subst hyj
          obtain ⟨Z1, Z2, Z3, hE⟩ := HI.out.2.2.done HM.out HNB.out.1 (by have := HNB.out; omega)
          have HE := Lib.hid hE
          have HC := Lib.hid HI.out.1
          clear HI hlt hE
          go_wp2_with fail
          refine (ccached_any HC.out).mono ?_
          rintro e w6 ⟨g, z, rfl, hz, _, _, _, b6⟩
          rw [HE.out.k0] at hz
          subst hz
          have H6 := Lib.hid (HC.out.below b6)
          clear b6 HC
          go_wp2_with fail
          refine (cget_any H6.out (by have := HM.out; omega) (by have := HE.out.us; omega) HE.out.i0 (N : Int) 1 2 (by have := HNB.out; omega) (by have := HNB.out; omega) (by omega) (by omega) (by omega)).mono ?_
          rintro e w7 ⟨rfl, h7, _⟩
          rw [HE.out.g1.1, HE.out.g1.2.1, HE.out.g1.2.2]
          rw [← HE.out.z1] at h7
          have H7 := Lib.hid h7
          clear h7
          generalize Wid Qy wr w7 = Q7 at *
          go_wp2_with fail
          refine (ccached_any H7.out).mono ?_
          rintro e w8 ⟨g8, z8, rfl, hz, _, _, _, b8⟩
          rw [HE.out.l1.2] at hz
          subst hz
          have H8 := Lib.hid (H7.out.below b8)
          clear b8 H7
          go_wp2_with fail
          refine (cfree_any H8.out).mono ?_
          rintro e w9 ⟨rfl, b9⟩
          rw [HE.out.l1.1, show M.total [] = 0 from rfl, show ([] : List M.R).length = 0 from rfl]
          have H9 := Lib.hid (H8.out.below b9)
          clear b9 H8
          go_wp2_with fail
          refine (cget_any H9.out (by have := HM.out; omega) (by have := HE.out.us; omega) HE.out.i1 1 0 0 (by omega) (by omega) (by omega) (by omega) (by omega)).mono ?_
          rintro e w10 ⟨rfl, h10, _⟩
          rw [HE.out.g2.1, HE.out.g2.2.1, HE.out.g2.2.2]
          rw [← HE.out.z2] at h10
          have H10 := Lib.hid h10
          clear h10 H9
          generalize Wid Q7 w9 w10 = Q10 at *
          go_wp2_with fail
          refine (cput_any H10.out (by have := HM.out; omega) (by have := HE.out.us; omega) 0 (N : Int) HE.out.i2).mono ?_
          rintro e w11 ⟨rfl, h11, _⟩
          rw [← HE.out.z3] at h11
          have H11 := Lib.hid h11
          clear h11 H10
          go_wp2_with fail
          refine (ccached_any H11.out).mono ?_
          rintro e w12 ⟨g12, z12, rfl, hz, _, _, _, b12⟩
          rw [HE.out.l3.2] at hz
          subst hz
          have H12 := Lib.hid (H11.out.below b12)
          clear b12 H11
          go_wp2_with fail
          refine (cfree_any H12.out).mono ?_
          rintro e w13 ⟨rfl, b13⟩
          rw [HE.out.l3.1, show M.total [⟨0, (N : Int)⟩] = (N : Int) by simp [M.total], show ([⟨0, (N : Int)⟩] : List M.R).length = 1 from rfl]
          have H13 := Lib.hid (below_call H12.out.bel b13)
          clear b13 H12
          go_wp2_with fail
          go_ret
          exact ⟨rfl, H13.out⟩

/-! The row's step. -/
set_option maxRecDepth 100000 in
theorem lifted (os : Os) (started : os.Started) (H : Type) (enc : TypeId × Value → H) :
    ReturnsInHanded {} Try.checked os 7 .any (Rows.chunkLargeSpec.pre6 enc Try.prog Try.f7 Rows.chunkLargeRow.domain false) (Rows.chunkLargeSpec.post enc Try.prog Try.f7 false true false false) := by
  refine returnsInHanded_of_change (C := Try.checked) own started (by kernel_rfl) Try.func7
    (ChangeSpec.witness6 (enc := enc) (C := Try.checked) false ⟨#[], #[.int .u16 0, .int .u8 0], []⟩ 8 (by kernel_rfl) (by kernel_rfl) (by kernel_rfl) (by kernel_rfl)) ?_
  intro W base args ds gs before hval0 hW hcnd _
  have hval : ∀ (j : Nat) t v, Try.f7.params[j]? = some t → args[j]? = some v → Value.okWide Try.prog W .any base t v := hval0
  have hW' := hW
  obtain ⟨p, q, hA0, hV, rfl, hfz, hnd⟩ := hW
  have hA : DataW.TrodAll enc Try.prog W 0 (fun _ => true) true Try.f7.params.toList args.toList ds p := hA0
  rw [Try.params7] at hA hval
  obtain ⟨v0, vs0, d0, ds0, p0, q0, hargs, rfl, rfl, h0, r0⟩ := trodAll_cons hA
  obtain ⟨v1, vs1, d1, ds1, p1, q1, rfl, rfl, rfl, h1, r1⟩ := trodAll_cons r0
  obtain ⟨rfl, rfl, rfl⟩ := trodAll_nil r1
  obtain rfl : args = #[v0, v1] := by cases args; simp_all
  obtain ⟨rfl, rfl⟩ := trodVars_none hV
  obtain ⟨a0, rfl, rfl, rfl, w0⟩ := open_int Try.underlying51 (hval 0 51 v0 rfl rfl) h0
  obtain ⟨a1, rfl, rfl, rfl, w1⟩ := open_int Try.underlying5 (hval 1 5 v1 rfl rfl) h1
  clear hA0 hval0
  refine (walk a0 a1 W w0 w1).mono fun e W' ⟨he, bel⟩ => ?_
  subst he
  exact ⟨_, rfl, _, _, _, [], _, [], hW', trodAll_mk1 (shut_bool Try.underlying4 _), (trodAll_cons_mk (shut_int Try.underlying51 w0) (trodAll_cons_mk (shut_int Try.underlying5 w1) trodAll_mk0)), rfl, bel.frame _, fun h => by cases h⟩

theorem over : Rows.chunkLargeRow.holds Try.pinned (OpenSpec.ofChange Rows.chunkLargeSpec) :=
  OpenClaim.holds_of_wide 7 Try.f7 rfl rfl rfl rfl rfl rfl rfl ⟨rfl, rfl, rfl, rfl, rfl⟩ rfl rfl rfl rfl rfl (by kernel_rfl) Try.func7 (by kernel_rfl)
    (of_decide_eq_true (by kernel_rfl)) (by unfold Func.isWrapper; first | (rw [if_pos (by decide +kernel)]; kernel_rfl) | (rw [if_neg (by decide +kernel)]; exact ⟨rfl, rfl⟩))
    (fun os started H enc _ => lifted os started H enc)

/-- The statement. -/
theorem proved : Rows.ChunkLargeSaid := over
#print axioms proved
end Go.Proofs.Ytmboibipabkhaaa.chunkLarge
