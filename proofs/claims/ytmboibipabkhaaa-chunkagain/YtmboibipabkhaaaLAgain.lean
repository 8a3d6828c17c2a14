/-
  ChunkAgain is true whatever the input: a chunk that was put is got again by the next one of its class, with a fresh header, and one of another class isn't; no conditions.
-/
import Derived.Test.YtmboibipabkhaaaRows
import Derived.WalkKit
import Derived.ProofKit
import Derived.OpenShut
import Derived.ShutString
import Derived.ChangeOld
import Derived.Below
import Derived.Test.YtmboibipabkhaaaK5
import Derived.Test.YtmboibipabkhaaaK11
namespace Go.Proofs.Ytmboibipabkhaaa.chunkAgain
open Go.ChangeShapes Go.WideShapes Go.ChangeAt Go.RowKit
set_option linter.unusedVariables false

theorem own : ownKnob Try.prog.godebug = none := by kernel_rfl

/-! The walk. -/
set_option maxRecDepth 20000 in
set_option maxHeartbeats 8000000 in
theorem walk (a0 : Int) (a1 : Int) (a2 : Int) (a3 : Int) (w : World) (w0 : (Lit.int .u8 a0).wf = true) (w1 : (Lit.int .u8 a1).wf = true) (w2 : (Lit.int .u8 a2).wf = true) (w3 : (Lit.int .u64 a3).wf = true) :
    Calls Try.prog 6 #[.int .u8 a0, .int .u8 a1, .int .u8 a2, .int .u64 a3] w fun e w' => e = .returned (.bool true) ∧ Below w.heap.size w w' := by
  obtain ⟨n0, hn0, rfl⟩ := u8_nat w0
  obtain ⟨n1, hn1, rfl⟩ := u8_nat w1
  obtain ⟨n2, hn2, rfl⟩ := u8_nat w2
  obtain ⟨n3, hn3, rfl⟩ := u64_nat w3
  clear w0 w1 w2 w3
  obtain ⟨k, q, j, Z1, Z2, Z3, Z4, hf⟩ := again_facts ((n0 : Int) % 64 + 1) ((n1 : Int) % 64 + 1) (n2 : Int) n3 (by omega) (by omega) (by omega) hn3
  have HF := Lib.hid hf
  have HN := Lib.hid (And.intro hn2 hn3)
  clear hf
  go_enter Try.func6, Try.ntmps6
  go_wp2_with fail
  refine (awake10_any _).mono ?_
  rintro e w1 ⟨rfl, b1⟩
  have B1 := Lib.hid b1
  clear b1
  go_wp2_with fail
  refine (cnew_any B1.out 2000 2000 (by decide)).mono ?_
  rintro e w2 ⟨s, a, b, c, Q, rfl, h2, _, _, _⟩
  have H2 := Lib.hid h2
  clear h2
  go_wp2_with fail
  refine (cget_any H2.out (by omega) (by simp [St.new]) HF.out.i0 ((n0 : Int) % 64 + 1) 0 1 (by omega) (by omega) (by omega) (by omega) (by omega)).mono ?_
  rintro e w3 ⟨rfl, h3, _⟩
  rw [← HF.out.z1] at h3
  rw [HF.out.g1.1, HF.out.g1.2.1, HF.out.g1.2.2]
  have H3 := Lib.hid h3
  clear h3
  generalize Wid Q w2 w3 = Q3 at *
  go_wp2_with fail
  refine (cget_any H3.out (by omega) (by rw [HF.out.us.1]; omega) HF.out.i1 1 0 1 (by omega) (by omega) (by omega) (by omega) (by omega)).mono ?_
  rintro e w4 ⟨rfl, h4, _⟩
  rw [← HF.out.z2] at h4
  rw [HF.out.g2.1, HF.out.g2.2.1, HF.out.g2.2.2]
  have H4 := Lib.hid h4
  clear h4
  generalize Wid Q3 w3 w4 = Q4 at *
  go_wp2_with fail
  refine (cput_any H4.out (by omega) (by rw [HF.out.us.2.1]; omega) 0 k HF.out.i2).mono ?_
  rintro e w5 ⟨rfl, h5, _⟩
  rw [← HF.out.z3] at h5
  have H5 := Lib.hid h5
  clear h5
  generalize Wid Q4 w4 w5 = Q5 at *
  go_wp2_with fail
  refine (ccached_any H5.out).mono ?_
  rintro e w6 ⟨g, z, rfl, hz, _, _, _, b6⟩
  rw [HF.out.c3] at hz
  subst hz
  have H6 := Lib.hid (H5.out.below b6)
  clear b6
  go_wp2_with fail
  refine (cget_any H6.out (by omega) (by rw [HF.out.us.2.2.1]; omega) HF.out.i3 ((n1 : Int) % 64 + 1) (n2 : Int) n3 (by omega) (by omega) (by omega) (by have := HN.out; omega) HN.out.2).mono ?_
  rintro e w7 ⟨rfl, h7, _⟩
  rw [← HF.out.z4] at h7
  rw [HF.out.g4.1, HF.out.g4.2.1, HF.out.g4.2.2]
  have H7 := Lib.hid h7
  clear h7
  generalize Wid Q5 w6 w7 = Q7 at *
  go_wp2_with fail
  refine (cspace_any H7.out).mono ?_
  rintro e w8 ⟨rfl, b8⟩
  have H8 := Lib.hid (H7.out.below b8)
  have HI := Lib.hid (HF.out.i4.in (List.mem_cons_self ..))
  have HJ := Lib.hid (show q = (q.toNat : Int) ∧ q.toNat < 2000 ∧ j = (j.toNat : Int) from by have := HI.out; simp only at this; omega)
  clear b8
  go_wp2_with fail
  refine (st_read H8.out.st q q.toNat j.toNat (n2 : Int).toNat n3 0 HJ.out.1 HJ.out.2.1 HF.out.st (by rw [HF.out.us.2.2.2]; omega)).mono ?_
  rintro e w9 ⟨rfl, h9, k9⟩
  rw [← HJ.out.2.2, Int.toNat_natCast]
  have hx := H8.out.bx.kept k9 H8.out.no
  obtain ⟨w10, hw10⟩ : ∃ w10, w10 = w9.alloc (.cells #[.int .i64 j, .int .i64 (n2 : Int), .int .u64 (n3 : Int), .int .u64 0] 39) := ⟨_, rfl⟩
  have b10 : Below w9.heap.size w9 w10 := by rw [hw10]; exact (Below.refl _ _).alloc (Nat.le_refl _) _
  have Y10 : Box4 w10 w9.heap.size (.int .i64 j) (.int .i64 (n2 : Int)) (.int .u64 (n3 : Int)) (.int .u64 0) := by rw [hw10]; exact Box4.new _ _ _ _ _ _
  have H10 := Lib.hid (show Chk (fun _ => False) w w10 s a b c 2000 _ (Wid Q7 w8 w9) _ from ⟨h9.below b10, hx.below b10, fun e => e.elim H8.out.no (fun e => by have := H8.out.bx.lt; omega)⟩)
  have c0 := Y10.c0
  have c1 := Y10.c1
  have c2 := Y10.c2
  have c3 := Y10.c3
  clear h9 k9 hx b10 Y10
  have t1 : (q == k) = false := by have := HF.out.kk; have := HF.out.last; simp; omega
  go_upto_region 13 with fail
  rw [← hw10]
  generalize w9.heap.size = y at *
  clear hw10
  have hmj : (n1 : Int) % 64 + 1 ≤ j := HF.out.kk.2.2
  rcases HF.out.last with ⟨hq, hj, hl⟩ | ⟨hq, hj⟩
  · rw [hq] at t1 ⊢
    rw [hj] at c0 hmj ⊢
    have HL := Lib.hid hl
    clear hq hj hl
    go_wp2_with fail
    refine (ccached_any H10.out).mono ?_
    rintro e w11 ⟨g, z, rfl, hz, _, _, _, b11⟩
    rw [show (M.all (St.K { Z4 with u := Z4.u + 1 })).length = 0 from HL.out] at hz
    subst hz
    have H11 := Lib.hid (below_call H10.out.bel b11)
    clear b11
    go_wp2_with fail
    go_ret
    exact ⟨rfl, H11.out⟩
  · have t2 : (q == 0) = false := by have := HF.out.kk; simp; omega
    have t3 : (j == k) = false := by simpa using hj
    clear hq hj
    go_wp2_with fail
    go_ret
    exact ⟨rfl, H10.out.bel⟩

/-! The row's step. -/
set_option maxRecDepth 100000 in
theorem lifted (os : Os) (started : os.Started) (H : Type) (enc : TypeId × Value → H) :
    ReturnsInHanded {} Try.checked os 6 .any (Rows.chunkAgainSpec.pre6 enc Try.prog Try.f6 Rows.chunkAgainRow.domain false) (Rows.chunkAgainSpec.post enc Try.prog Try.f6 false true false false) := by
  refine returnsInHanded_of_change (C := Try.checked) own started (by kernel_rfl) Try.func6
    (ChangeSpec.witness6 (enc := enc) (C := Try.checked) false ⟨#[], #[.int .u8 0, .int .u8 0, .int .u8 0, .int .u64 0], []⟩ 8 (by kernel_rfl) (by kernel_rfl) (by kernel_rfl) (by kernel_rfl)) ?_
  intro W base args ds gs before hval0 hW hcnd _
  have hval : ∀ (j : Nat) t v, Try.f6.params[j]? = some t → args[j]? = some v → Value.okWide Try.prog W .any base t v := hval0
  have hW' := hW
  obtain ⟨p, q, hA0, hV, rfl, hfz, hnd⟩ := hW
  have hA : DataW.TrodAll enc Try.prog W 0 (fun _ => true) true Try.f6.params.toList args.toList ds p := hA0
  rw [Try.params6] at hA hval
  obtain ⟨v0, vs0, d0, ds0, p0, q0, hargs, rfl, rfl, h0, r0⟩ := trodAll_cons hA
  obtain ⟨v1, vs1, d1, ds1, p1, q1, rfl, rfl, rfl, h1, r1⟩ := trodAll_cons r0
  obtain ⟨v2, vs2, d2, ds2, p2, q2, rfl, rfl, rfl, h2, r2⟩ := trodAll_cons r1
  obtain ⟨v3, vs3, d3, ds3, p3, q3, rfl, rfl, rfl, h3, r3⟩ := trodAll_cons r2
  obtain ⟨rfl, rfl, rfl⟩ := trodAll_nil r3
  obtain rfl : args = #[v0, v1, v2, v3] := by cases args; simp_all
  obtain ⟨rfl, rfl⟩ := trodVars_none hV
  obtain ⟨a0, rfl, rfl, rfl, w0⟩ := open_int Try.underlying5 (hval 0 5 v0 rfl rfl) h0
  obtain ⟨a1, rfl, rfl, rfl, w1⟩ := open_int Try.underlying5 (hval 1 5 v1 rfl rfl) h1
  obtain ⟨a2, rfl, rfl, rfl, w2⟩ := open_int Try.underlying5 (hval 2 5 v2 rfl rfl) h2
  obtain ⟨a3, rfl, rfl, rfl, w3⟩ := open_int Try.underlying30 (hval 3 30 v3 rfl rfl) h3
  clear hA0 hval0
  refine (walk a0 a1 a2 a3 W w0 w1 w2 w3).mono fun e W' ⟨he, bel⟩ => ?_
  subst he
  exact ⟨_, rfl, _, _, _, [], _, [], hW', trodAll_mk1 (shut_bool Try.underlying4 _), (trodAll_cons_mk (shut_int Try.underlying5 w0) (trodAll_cons_mk (shut_int Try.underlying5 w1) (trodAll_cons_mk (shut_int Try.underlying5 w2) (trodAll_cons_mk (shut_int Try.underlying30 w3) trodAll_mk0)))), rfl, bel.frame _, fun h => by cases h⟩

theorem over : Rows.chunkAgainRow.holds Try.pinned (OpenSpec.ofChange Rows.chunkAgainSpec) :=
  OpenClaim.holds_of_wide 6 Try.f6 rfl rfl rfl rfl rfl rfl rfl ⟨rfl, rfl, rfl, rfl, rfl⟩ rfl rfl rfl rfl rfl (by kernel_rfl) Try.func6 (by kernel_rfl)
    (of_decide_eq_true (by kernel_rfl)) (by unfold Func.isWrapper; first | (rw [if_pos (by decide +kernel)]; kernel_rfl) | (rw [if_neg (by decide +kernel)]; exact ⟨rfl, rfl⟩))
    (fun os started H enc _ => lifted os started H enc)

/-- The statement. -/
theorem proved : Rows.ChunkAgainSaid := over
#print axioms proved
end Go.Proofs.Ytmboibipabkhaaa.chunkAgain
