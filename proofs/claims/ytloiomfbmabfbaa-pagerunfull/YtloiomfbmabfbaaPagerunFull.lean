/-
  PagerunFull: there is no room just if the longest free run has less pages than are asked for, and then nothing is changed; for every input the law returns true, and the arguments read behind the call as they read before. No condition.
-/
import Derived.Test.YtloiomfbmabfbaaRows
import Derived.WalkKit
import Derived.ProofKit
import Derived.OpenShut
import Derived.ShutString
import Derived.ChangeOld
import Derived.Below
import Derived.Test.YtloiomfbmabfbaaArg6
namespace Go.Proofs.Ytloiomfbmabfbaa.pagerunFull
open Go.ChangeShapes Go.WideShapes Go.ChangeAt Go.RowKit
set_option linter.unusedVariables false

theorem own : ownKnob Try.prog.godebug = none := by kernel_rfl

/-! The walk. -/
set_option maxRecDepth 20000 in
set_option maxHeartbeats 8000000 in
theorem walk (a0 : Int) (a1 : Option Addr) (len1 cap1 : Nat) (a2 : Int) (w : World) (w0 : (Lit.int .u8 a0).wf = true) (w1 : IsActs w a1 len1) (w2 : (Lit.int .u8 a2).wf = true) :
    Calls Try.prog 6 #[.int .u8 a0, .slice a1 len1 cap1, .int .u8 a2] w fun e w' => e = .returned (.bool true) ∧ Below w.heap.size w w' := by
  obtain ⟨n2, hn2, rfl⟩ := u8_nat w2
  obtain ⟨n0, hn0, rfl⟩ := u8_nat w0
  obtain ⟨P, hPe⟩ : ∃ P : Int, P = min (max (n0 : Int) 1) 1048576 := ⟨_, rfl⟩
  obtain ⟨hl1, acts, hla, ha⟩ := w1
  have HA := Lib.hid (And.intro hla ha)
  clear hla ha
  go_enter Try.func6, Try.ntmps6
  go_wp2_with fail
  refine (awake_any _).mono ?_
  rintro e w1 ⟨rfl, b1⟩
  have B1 := Lib.hid b1
  clear b1
  by_cases h60 : 60 < len1
  · have d1 : decide ((60 : Int) < (len1 : Int)) = true := by simp; omega
    go_wp2_with fail
    go_ret
    exact ⟨rfl, B1.out⟩
  have d1 : decide ((60 : Int) < (len1 : Int)) = false := by simp; omega
  go_wp2_with fail
  refine (s_new B1.out (n0 : Int) P hPe).mono ?_
  rintro e w2 ⟨g, rfl, h2, _, _⟩
  have H2 := Lib.hid h2
  clear h2
  go_wp2_with fail
  go_loopw [9] (fun i wr => ∃ (k : Nat) (l : List M.R) (T : Int), k ≤ len1 ∧ i = .int .i64 (k : Int) ∧ Std w wr g P l T k) (fun i _ => len1 - (intOf i).toNat)
  case atStart => exact ⟨0, _, _, by omega, rfl, H2.out⟩
  case round =>
    obtain ⟨k, l, T, hk, rfl, hs⟩ := hrel
    have HS := Lib.hid hs
    clear hs
    by_cases hlt : k < len1
    · have hkl : k < acts.length := by have := HA.out.1; omega
      obtain ⟨bl, o, rfl, hc⟩ := HA.out.2 (by omega)
      have hkk := hc k hkl
      obtain ⟨b, hb⟩ : ∃ b, b = acts[k].g := ⟨_, rfl⟩
      obtain ⟨p, hpe⟩ : ∃ p, p = acts[k].p := ⟨_, rfl⟩
      obtain ⟨n, hne⟩ : ∃ n, n = acts[k].n := ⟨_, rfl⟩
      have HK := Lib.hid (show ∀ W, Below w.heap.size w W → W.cell? ⟨bl, o + k * 3 + 1, none⟩ = some (.int .i64 p) ∧ W.cell? ⟨bl, o + k * 3 + 2, none⟩ = some (.int .i64 n) from fun W hW => by
        have := hkk.keep hW
        rw [hpe, hne]
        exact ⟨this.2.1, this.2.2.1⟩)
      have c0 := (hkk.keep HS.out.bel).1
      rw [← hb] at c0
      have c1 := (HK.out _ HS.out.bel).1
      have c2 := (HK.out _ HS.out.bel).2
      have hp : -9223372036854775808 ≤ p := by rw [hpe]; exact hkk.2.2.2.1.1
      clear hc hkk hb hpe hne
      cases b with
      | true =>
        go_wp2_with fail
        refine wp_region_noPanic ?_
        refine wp_region_held_drew (S := fun W => W.cell? ⟨bl, o + k * 3 + 1, none⟩ = some (.int .i64 p) ∧ W.cell? ⟨bl, o + k * 3 + 2, none⟩ = some (.int .i64 n)) (by kernel_rfl) (⟨c1, c2⟩) (fun hHeld => ?_)
        refine wpAnyH_take (i := 0) (oi := ({ dst := some 36, op := Op.move (Operand.tmp 8), type := 24, pos := "law.go:151", after := #[], guard := none } : Oper)) (v := ?_) rfl (by kernel_rfl) (by kernel_rfl) (by kernel_rfl) (fun _ _ _ h => h) (Or.inl ⟨by rfl, ?_⟩) (by assumption) ?_
        rotate_left
        · (intro w hSw; (try dsimp only at hSw); go_simp) <;> with_reducible rfl
        (try simp only [Act.put, List.setIfInBounds_toArray, List.set_cons_zero, List.set_cons_succ])
        refine wpAnyH_take (i := 1) (oi := ({ dst := some 37, op := Op.move (Operand.tmp 1), type := 22, pos := "law.go:151", after := #[], guard := none } : Oper)) (v := ?_) rfl (by kernel_rfl) (by kernel_rfl) (by kernel_rfl) (fun _ _ _ h => h) (Or.inl ⟨by rfl, ?_⟩) (by assumption) ?_
        rotate_left
        · (intro w hSw; (try dsimp only at hSw); go_simp) <;> with_reducible rfl
        (try simp only [Act.put, List.setIfInBounds_toArray, List.set_cons_zero, List.set_cons_succ])
        refine wpAnyH_take (i := 2) (oi := ({ dst := some 38, op := Op.move (Operand.tmp 9), type := 3, pos := "law.go:151", after := #[], guard := none } : Oper)) (v := ?_) rfl (by kernel_rfl) (by kernel_rfl) (by kernel_rfl) (fun _ _ _ h => h) (Or.inl ⟨by rfl, ?_⟩) (by assumption) ?_
        rotate_left
        · (intro w hSw; (try dsimp only at hSw); go_simp) <;> with_reducible rfl
        (try simp only [Act.put, List.setIfInBounds_toArray, List.set_cons_zero, List.set_cons_succ])
        refine wpAnyH_take (i := 3) (oi := ({ dst := some 39, op := Op.indexAddr 22 (Operand.tmp 37) (Operand.tmp 38), type := 0, pos := "law.go:151", after := #[{ on := 1, ground := Ground.data }, { on := 2, ground := Ground.data }], guard := none } : Oper)) (v := ?_) rfl (by kernel_rfl) (by kernel_rfl) (by kernel_rfl) (fun _ _ _ h => h) (Or.inl ⟨by rfl, ?_⟩) (by assumption) ?_
        rotate_left
        · (intro w hSw; (try dsimp only at hSw); go_simp) <;> with_reducible rfl
        (try simp only [Act.put, List.setIfInBounds_toArray, List.set_cons_zero, List.set_cons_succ])
        refine wpAnyH_take (i := 4) (oi := ({ dst := some 40, op := Op.fieldAddr 31 (Operand.tmp 39) 1, type := 0, pos := "law.go:151", after := #[{ on := 3, ground := Ground.data }], guard := none } : Oper)) (v := ?_) rfl (by kernel_rfl) (by kernel_rfl) (by kernel_rfl) (fun _ _ _ h => h) (Or.inl ⟨by rfl, ?_⟩) (by assumption) ?_
        rotate_left
        · (intro w hSw; (try dsimp only at hSw); go_simp) <;> with_reducible rfl
        (try simp only [Act.put, List.setIfInBounds_toArray, List.set_cons_zero, List.set_cons_succ])
        refine wpAnyH_take (i := 5) (oi := ({ dst := some 41, op := Op.load 3 (Operand.tmp 40), type := 3, pos := "law.go:151", after := #[{ on := 4, ground := Ground.data }], guard := none } : Oper)) (v := ?_) rfl (by kernel_rfl) (by kernel_rfl) (by kernel_rfl) (fun _ _ _ h => h) (Or.inl ⟨by rfl, ?_⟩) (by assumption) ?_
        rotate_left
        · (intro w hSw; (try dsimp only at hSw); go_simp) <;> with_reducible rfl
        (try simp only [Act.put, List.setIfInBounds_toArray, List.set_cons_zero, List.set_cons_succ])
        refine wpAnyH_take (i := 6) (oi := ({ dst := some 42, op := Op.move (Operand.tmp 1), type := 22, pos := "law.go:151", after := #[], guard := none } : Oper)) (v := ?_) rfl (by kernel_rfl) (by kernel_rfl) (by kernel_rfl) (fun _ _ _ h => h) (Or.inl ⟨by rfl, ?_⟩) (by assumption) ?_
        rotate_left
        · (intro w hSw; (try dsimp only at hSw); go_simp) <;> with_reducible rfl
        (try simp only [Act.put, List.setIfInBounds_toArray, List.set_cons_zero, List.set_cons_succ])
        refine wpAnyH_take (i := 7) (oi := ({ dst := some 43, op := Op.move (Operand.tmp 9), type := 3, pos := "law.go:151", after := #[], guard := none } : Oper)) (v := ?_) rfl (by kernel_rfl) (by kernel_rfl) (by kernel_rfl) (fun _ _ _ h => h) (Or.inl ⟨by rfl, ?_⟩) (by assumption) ?_
        rotate_left
        · (intro w hSw; (try dsimp only at hSw); go_simp) <;> with_reducible rfl
        (try simp only [Act.put, List.setIfInBounds_toArray, List.set_cons_zero, List.set_cons_succ])
        refine wpAnyH_take (i := 8) (oi := ({ dst := some 44, op := Op.indexAddr 22 (Operand.tmp 42) (Operand.tmp 43), type := 0, pos := "law.go:151", after := #[{ on := 6, ground := Ground.data }, { on := 7, ground := Ground.data }], guard := none } : Oper)) (v := ?_) rfl (by kernel_rfl) (by kernel_rfl) (by kernel_rfl) (fun _ _ _ h => h) (Or.inl ⟨by rfl, ?_⟩) (by assumption) ?_
        rotate_left
        · (intro w hSw; (try dsimp only at hSw); go_simp) <;> with_reducible rfl
        (try simp only [Act.put, List.setIfInBounds_toArray, List.set_cons_zero, List.set_cons_succ])
        refine wpAnyH_take (i := 9) (oi := ({ dst := some 45, op := Op.fieldAddr 31 (Operand.tmp 44) 2, type := 0, pos := "law.go:151", after := #[{ on := 8, ground := Ground.data }], guard := none } : Oper)) (v := ?_) rfl (by kernel_rfl) (by kernel_rfl) (by kernel_rfl) (fun _ _ _ h => h) (Or.inl ⟨by rfl, ?_⟩) (by assumption) ?_
        rotate_left
        · (intro w hSw; (try dsimp only at hSw); go_simp) <;> with_reducible rfl
        (try simp only [Act.put, List.setIfInBounds_toArray, List.set_cons_zero, List.set_cons_succ])
        refine wpAnyH_take (i := 10) (oi := ({ dst := some 46, op := Op.load 3 (Operand.tmp 45), type := 3, pos := "law.go:151", after := #[{ on := 9, ground := Ground.data }], guard := none } : Oper)) (v := ?_) rfl (by kernel_rfl) (by kernel_rfl) (by kernel_rfl) (fun _ _ _ h => h) (Or.inl ⟨by rfl, ?_⟩) (by assumption) ?_
        rotate_left
        · (intro w hSw; (try dsimp only at hSw); go_simp) <;> with_reducible rfl
        (try simp only [Act.put, List.setIfInBounds_toArray, List.set_cons_zero, List.set_cons_succ])
        refine wpAnyH_ready (rs := [11]) (by kernel_rfl) (by simp) ?_
        refine AllReadyH.cons (o := ({ dst := some 47, op := Op.call { callee := Callee.value (Operand.func 12), args := #[Operand.tmp 36, Operand.tmp 41, Operand.tmp 46], argTypes := #[24, 3, 3] }, type := 32, pos := "law.go:151", after := #[{ on := 0, ground := Ground.data }, { on := 5, ground := Ground.data }, { on := 10, ground := Ground.data }], guard := none } : Oper)) rfl (fun K hK => ?_) ?_
        · go_simp
          refine (s_give HS.out.drew (by omega) p n hp).mono ?_
          rintro e w4 ⟨rfl, h4, _⟩
          have H4 := Lib.hid h4
          clear h4
          go_wp2_with fail
          refine hK.out _ _ ?_ (fun hHeld => ?_)
          · exact HK.out _ H4.out.bel
          clear hK K
          (try simp only [Act.put, List.setIfInBounds_toArray, List.set_cons_zero, List.set_cons_succ])
          refine wpAnyH_done (by kernel_rfl) ?_ _
          refine NoPanic.normal ?_
          go_wp2_with fail
          go_roundw
          case rel => exact ⟨k + 1, _, _, by omega, by go_num, H4.out⟩
          case measure => simp [intOf]; omega
        exact AllReadyH.nil
      | false =>
        go_wp2_with fail
        refine (s_take HS.out (by omega) n).mono ?_
        rintro e w4 ⟨rfl, h4, _⟩
        have H4 := Lib.hid h4
        clear h4
        go_wp2_with fail
        go_roundw
        case rel => exact ⟨k + 1, _, _, by omega, by go_num, H4.out⟩
        case measure => simp [intOf]; omega
    · have HK := Lib.hid hk
      clear hk
      obtain ⟨r, hr⟩ : ∃ r : Nat, r = n2 % 60 := ⟨_, rfl⟩
      have hr1 : (n2 : Int).tmod 60 = (r : Int) := by rw [Int.tmod_eq_emod_of_nonneg (by omega)]; omega
      have hr2 : (n2 : Int) % 60 = (r : Int) := by omega
      have hr60 : r < 60 := by omega
      have hu8 : IntKind.u8.wrap (r : Int) = (r : Int) := by rw [IntKind.wrap_u8]; omega
      clear hr
      go_wp2_with fail
      refine (s_runs HS.out).mono ?_
      rintro e w5 ⟨A5, t5, c5, rfl, ht5, r5, b5⟩
      have H5 := Lib.hid (HS.out.below b5)
      have R5 := Lib.hid (And.intro r5 ht5)
      clear r5 b5 ht5 HS
      go_wp2_with fail
      refine (s_largest H5.out).mono ?_
      rintro e w6 ⟨rfl, b6⟩
      have H6 := Lib.hid (And.intro (H5.out.below b6) (R5.out.1.below b6))
      clear b6
      go_wp2_with fail
      refine (s_ticks H6.out.1).mono ?_
      rintro e w7 ⟨rfl, b7⟩
      have H7 := Lib.hid (And.intro (H6.out.1.below b7) (H6.out.2.below b7))
      clear b7
      go_wp2_with fail
      refine (s_take H7.out.1 (by have := HK.out; omega) ((r : Int) + 1)).mono ?_
      rintro e w8 ⟨rfl, h8, g8⟩
      have R8 := Lib.hid (H7.out.1.runs H7.out.2 g8)
      have hm := takeB_most (l := l) (n := (r : Int) + 1) (by omega)
      have hT0 := H7.out.1.fit.t0
      have hT1 := H7.out.1.fit.t1
      have hK := HK.out
      have hlen := len_big H7.out.1.fit.ok (by have := H7.out.1.p1; omega) H7.out.1.p2
      have ht5 := R5.out.2
      have hw1 : wrap64 (T + 1) = T + 1 := by unfold wrap64; omega
      have hw2 : wrap64 (T + 1 + (t5 : Int)) = T + 1 + (t5 : Int) := by unfold wrap64; omega
      obtain ⟨ms, hms⟩ : ∃ ms, ms = M.most l := ⟨_, rfl⟩
      rw [← hms] at hm
      clear hT0 hT1 hK hlen ht5
      by_cases hle : (r : Int) + 1 ≤ ms
      · have hb : takeB l ((r : Int) + 1) = true := by rw [hm]; simp; omega
        have e1 : tkE l ((r : Int) + 1) = 0 := by rw [tkE, if_neg (by omega), if_pos hb]
        have e2 : tkT l ((r : Int) + 1) T = T + 1 + (t5 : Int) := by rw [tkT, if_pos hb, R5.out.2]
        rw [e2] at h8
        rw [e1]
        have H8 := Lib.hid h8
        rw [← hms]
        clear h8 hb e1 e2 hm hms
        go_wp2_with fail
        refine (s_ticks H8.out).mono ?_
        rintro e w9 ⟨rfl, b9⟩
        have H9 := Lib.hid (H8.out.below b9)
        clear b9
        go_wp2_with fail
        go_ret
        exact ⟨rfl, H9.out.bel⟩
      · have hb : takeB l ((r : Int) + 1) = false := by rw [hm]; simp; omega
        have e1 : tkE l ((r : Int) + 1) = 4 := by rw [tkE, if_neg (by omega), hb]; rfl
        have e2 : tkT l ((r : Int) + 1) T = T := by rw [tkT, hb]; rfl
        have e3 : tkL l ((r : Int) + 1) = l := by rw [tkL, hb]; rfl
        rw [e2, e3] at h8
        rw [e1]
        have H8 := Lib.hid h8
        rw [← hms]
        clear h8 hb e1 e2 e3 hm hms
        go_wp2_with fail
        refine (s_runs H8.out).mono ?_
        rintro e w9 ⟨A9, t9, c9, rfl, ht9, r9, b9⟩
        have H9 := Lib.hid (And.intro (H8.out.below b9) (And.intro (R8.out.below b9) (And.intro r9 ht9)))
        clear b9 r9 ht9
        go_wp2_with fail
        refine (same_any _ A9 A5 l l t9 c9 t5 c5 H9.out.2.2.2 R5.out.2 H9.out.2.2.1 H9.out.2.1 (by have := len_big H9.out.1.fit.ok (by have := H9.out.1.p1; omega) H9.out.1.p2; have := H9.out.2.2.2; omega)).mono ?_
        rintro e w10 ⟨rfl, b10⟩
        rw [show decide (l = l) = true by simp]
        have H10 := Lib.hid (H9.out.1.below b10)
        clear b10
        go_wp2_with fail
        refine (s_ticks H10.out).mono ?_
        rintro e w11 ⟨rfl, b11⟩
        have H11 := Lib.hid (H10.out.below b11)
        clear b11
        go_wp2_with fail
        go_ret
        exact ⟨rfl, H11.out.bel⟩

/-! The row's step. -/
set_option maxRecDepth 100000 in
theorem lifted (os : Os) (started : os.Started) (H : Type) (enc : TypeId × Value → H) :
    ReturnsInHanded {} Try.checked os 6 .any (Rows.pagerunFullSpec.pre6 enc Try.prog Try.f6 Rows.pagerunFullRow.domain false) (Rows.pagerunFullSpec.post enc Try.prog Try.f6 false true false false) := by
  refine returnsInHanded_of_change (C := Try.checked) own started (by kernel_rfl) Try.func6
    (ChangeSpec.witness6 (enc := enc) (C := Try.checked) false ⟨#[], #[.int .u8 0, .slice none 0 0, .int .u8 0], []⟩ 8 (by kernel_rfl) (by kernel_rfl) (by kernel_rfl) (by kernel_rfl)) ?_
  intro W base args ds gs before hval0 hW hcnd _
  have hval : ∀ (j : Nat) t v, Try.f6.params[j]? = some t → args[j]? = some v → Value.okWide Try.prog W .any base t v := hval0
  have hW' := hW
  obtain ⟨p, q, hA0, hV, rfl, hfz, hnd⟩ := hW
  have hA : DataW.TrodAll enc Try.prog W 0 (fun _ => true) true Try.f6.params.toList args.toList ds p := hA0
  rw [Try.params6] at hA hval
  obtain ⟨v0, vs0, d0, ds0, p0, q0, hargs, rfl, rfl, h0, r0⟩ := trodAll_cons hA
  obtain ⟨v1, vs1, d1, ds1, p1, q1, rfl, rfl, rfl, h1, r1⟩ := trodAll_cons r0
  obtain ⟨v2, vs2, d2, ds2, p2, q2, rfl, rfl, rfl, h2, r2⟩ := trodAll_cons r1
  obtain ⟨rfl, rfl, rfl⟩ := trodAll_nil r2
  obtain rfl : args = #[v0, v1, v2] := by cases args; simp_all
  obtain ⟨rfl, rfl⟩ := trodVars_none hV
  obtain ⟨a0, rfl, rfl, rfl, w0⟩ := open_int Try.underlying5 (hval 0 5 v0 rfl rfl) h0
  obtain ⟨a1, len1, cap1, rfl⟩ := okWide_slice Try.underlying22 (hval 1 22 v1 rfl rfl)
  have k1 := h1
  have lt1 : ∀ x ∈ p1, x.block < W.heap.size := by obtain ⟨m, hm⟩ := k1; exact DataW.trod_lt m _ _ _ hm
  have w1 : IsActs W a1 len1 := by
    obtain ⟨fuel, hf⟩ := h1
    obtain ⟨A, l, c, hcs, hw⟩ := acts_open hf
    simp [Value.cells] at hcs
    obtain ⟨rfl, rfl, rfl⟩ := hcs
    exact hw
  obtain ⟨a2, rfl, rfl, rfl, w2⟩ := open_int Try.underlying5 (hval 2 5 v2 rfl rfl) h2
  clear hA0 hval0
  refine (walk a0 a1 len1 cap1 a2 W w0 w1 w2).mono fun e W' ⟨he, bel⟩ => ?_
  subst he
  exact ⟨_, rfl, _, _, _, [], _, [], hW', trodAll_mk1 (shut_bool Try.underlying4 _), (trodAll_cons_mk (shut_int Try.underlying5 w0) (trodAll_cons_mk (Below.trod laidOut (by kernel_rfl) (of_decide_eq_true (by kernel_rfl)) k1 bel lt1) (trodAll_cons_mk (shut_int Try.underlying5 w2) trodAll_mk0))), rfl, bel.frame _, fun h => by cases h⟩

theorem over : Rows.pagerunFullRow.holds Try.pinned (OpenSpec.ofChange Rows.pagerunFullSpec) :=
  OpenClaim.holds_of_wide 6 Try.f6 rfl rfl rfl rfl rfl rfl rfl ⟨rfl, rfl, rfl, rfl, rfl⟩ rfl rfl rfl rfl rfl (by kernel_rfl) Try.func6 (by kernel_rfl)
    (of_decide_eq_true (by kernel_rfl)) (by unfold Func.isWrapper; first | (rw [if_pos (by decide +kernel)]; kernel_rfl) | (rw [if_neg (by decide +kernel)]; exact ⟨rfl, rfl⟩))
    (fun os started H enc _ => lifted os started H enc)

/-- The statement. -/
theorem proved : Rows.PagerunFullSaid := over
#print axioms proved
end Go.Proofs.Ytloiomfbmabfbaa.pagerunFull
