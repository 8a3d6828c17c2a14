/-
  PagerunBack: what is taken and given back at once leaves the free runs as they were, and costs two calls' ticks; without holes pages are taken one behind the other; for every input the law returns true, and the arguments read behind the call as they read before. No condition.
-/
import Derived.Test.YtloiomfbmabfbaaRows
import Derived.WalkKit
import Derived.ProofKit
import Derived.OpenShut
import Derived.ShutString
import Derived.ChangeOld
import Derived.Below
import Derived.Test.YtloiomfbmabfbaaArg6
namespace Go.Proofs.Ytloiomfbmabfbaa.pagerunBack
open Go.ChangeShapes Go.WideShapes Go.ChangeAt Go.RowKit
set_option linter.unusedVariables false

theorem own : ownKnob Try.prog.godebug = none := by kernel_rfl

theorem u16_nat' {a : Int} (h : (Lit.int .u16 a).wf = true) : ∃ n : Nat, n < 65536 ∧ a = n := by
  have := bounds_u16 h
  exact ⟨a.toNat, by omega, by omega⟩

/-! The walk. -/
set_option maxRecDepth 20000 in
set_option maxHeartbeats 8000000 in
theorem walk (a0 : Int) (a1 : Option Addr) (len1 cap1 : Nat) (a2 : Int) (a3 : Int) (w : World) (w0 : (Lit.int .u16 a0).wf = true) (w1 : IsActs w a1 len1) (w2 : (Lit.int .u8 a2).wf = true) (w3 : (Lit.int .u8 a3).wf = true) :
    Calls Try.prog 7 #[.int .u16 a0, .slice a1 len1 cap1, .int .u8 a2, .int .u8 a3] w fun e w' => e = .returned (.bool true) ∧ Below w.heap.size w w' := by
  obtain ⟨n2, hn2, rfl⟩ := u8_nat w2
  obtain ⟨n3, hn3, rfl⟩ := u8_nat w3
  obtain ⟨n0, hn0, rfl⟩ := u16_nat' w0
  obtain ⟨P, hPe⟩ : ∃ P : Int, P = min (max (n0 : Int) 1) 1048576 := ⟨_, rfl⟩
  obtain ⟨hl1, acts, hla, ha⟩ := w1
  have HA := Lib.hid (And.intro hla ha)
  clear hla ha
  go_enter Try.func7, Try.ntmps7
  go_wp2_with fail
  refine (awake_any _).mono ?_
  rintro e w1 ⟨rfl, b1⟩
  have B1 := Lib.hid b1
  clear b1
  by_cases h60 : 60 < len1
  · have d1 : decide ((60 : Int) < (len1 : Int)) = true := by simp; omega
    go_wp2_with fail
    go_ret
    exact ⟨rfl, B1.out⟩
  have d1 : decide ((60 : Int) < (len1 : Int)) = false := by simp; omega
  go_wp2_with fail
  refine (s_new B1.out (n0 : Int) P hPe).mono ?_
  rintro e w2 ⟨g, rfl, h2, _, _⟩
  have H2 := Lib.hid h2
  clear h2
  go_wp2_with fail
  go_loopw [11] (fun i wr => ∃ (k : Nat) (l : List M.R) (T : Int), k ≤ len1 ∧ i = .int .i64 (k : Int) ∧ Std w wr g P l T k) (fun i _ => len1 - (intOf i).toNat)
  case atStart => exact ⟨0, _, _, by omega, rfl, H2.out⟩
  case round =>
    obtain ⟨k, l, T, hk, rfl, hs⟩ := hrel
    have HS := Lib.hid hs
    clear hs
    by_cases hlt : k < len1
    · have hkl : k < acts.length := by have := HA.out.1; omega
      obtain ⟨bl, o, rfl, hc⟩ := HA.out.2 (by omega)
      have hkk := hc k hkl
      obtain ⟨b, hb⟩ : ∃ b, b = acts[k].g := ⟨_, rfl⟩
      obtain ⟨p, hpe⟩ : ∃ p, p = acts[k].p := ⟨_, rfl⟩
      obtain ⟨n, hne⟩ : ∃ n, n = acts[k].n := ⟨_, rfl⟩
      have HK := Lib.hid (show ∀ W, Below w.heap.size w W → W.cell? ⟨bl, o + k * 3 + 1, none⟩ = some (.int .i64 p) ∧ W.cell? ⟨bl, o + k * 3 + 2, none⟩ = some (.int .i64 n) from fun W hW => by
        have := hkk.keep hW
        rw [hpe, hne]
        exact ⟨this.2.1, this.2.2.1⟩)
      have c0 := (hkk.keep HS.out.bel).1
      rw [← hb] at c0
      have c1 := (HK.out _ HS.out.bel).1
      have c2 := (HK.out _ HS.out.bel).2
      have hp : -9223372036854775808 ≤ p := by rw [hpe]; exact hkk.2.2.2.1.1
      clear hc hkk hb hpe hne
      cases b with
      | true =>
        go_wp2_with fail
        refine wp_region_noPanic ?_
        refine wp_region_held_drew (S := fun W => W.cell? ⟨bl, o + k * 3 + 1, none⟩ = some (.int .i64 p) ∧ W.cell? ⟨bl, o + k * 3 + 2, none⟩ = some (.int .i64 n)) (by kernel_rfl) (⟨c1, c2⟩) (fun hHeld => ?_)
        refine wpAnyH_take (i := 0) (oi := ({ dst := some 42, op := Op.move (Operand.tmp 10), type := 24, pos := "law.go:179", after := #[], guard := none } : Oper)) (v := ?_) rfl (by kernel_rfl) (by kernel_rfl) (by kernel_rfl) (fun _ _ _ h => h) (Or.inl ⟨by rfl, ?_⟩) (by assumption) ?_
        rotate_left
        · (intro w hSw; (try dsimp only at hSw); go_simp) <;> with_reducible rfl
        (try simp only [Act.put, List.setIfInBounds_toArray, List.set_cons_zero, List.set_cons_succ])
        refine wpAnyH_take (i := 1) (oi := ({ dst := some 43, op := Op.move (Operand.tmp 1), type := 22, pos := "law.go:179", after := #[], guard := none } : Oper)) (v := ?_) rfl (by kernel_rfl) (by kernel_rfl) (by kernel_rfl) (fun _ _ _ h => h) (Or.inl ⟨by rfl, ?_⟩) (by assumption) ?_
        rotate_left
        · (intro w hSw; (try dsimp only at hSw); go_simp) <;> with_reducible rfl
        (try simp only [Act.put, List.setIfInBounds_toArray, List.set_cons_zero, List.set_cons_succ])
        refine wpAnyH_take (i := 2) (oi := ({ dst := some 44, op := Op.move (Operand.tmp 11), type := 3, pos := "law.go:179", after := #[], guard := none } : Oper)) (v := ?_) rfl (by kernel_rfl) (by kernel_rfl) (by kernel_rfl) (fun _ _ _ h => h) (Or.inl ⟨by rfl, ?_⟩) (by assumption) ?_
        rotate_left
        · (intro w hSw; (try dsimp only at hSw); go_simp) <;> with_reducible rfl
        (try simp only [Act.put, List.setIfInBounds_toArray, List.set_cons_zero, List.set_cons_succ])
        refine wpAnyH_take (i := 3) (oi := ({ dst := some 45, op := Op.indexAddr 22 (Operand.tmp 43) (Operand.tmp 44), type := 0, pos := "law.go:179", after := #[{ on := 1, ground := Ground.data }, { on := 2, ground := Ground.data }], guard := none } : Oper)) (v := ?_) rfl (by kernel_rfl) (by kernel_rfl) (by kernel_rfl) (fun _ _ _ h => h) (Or.inl ⟨by rfl, ?_⟩) (by assumption) ?_
        rotate_left
        · (intro w hSw; (try dsimp only at hSw); go_simp) <;> with_reducible rfl
        (try simp only [Act.put, List.setIfInBounds_toArray, List.set_cons_zero, List.set_cons_succ])
        refine wpAnyH_take (i := 4) (oi := ({ dst := some 46, op := Op.fieldAddr 31 (Operand.tmp 45) 1, type := 0, pos := "law.go:179", after := #[{ on := 3, ground := Ground.data }], guard := none } : Oper)) (v := ?_) rfl (by kernel_rfl) (by kernel_rfl) (by kernel_rfl) (fun _ _ _ h => h) (Or.inl ⟨by rfl, ?_⟩) (by assumption) ?_
        rotate_left
        · (intro w hSw; (try dsimp only at hSw); go_simp) <;> with_reducible rfl
        (try simp only [Act.put, List.setIfInBounds_toArray, List.set_cons_zero, List.set_cons_succ])
        refine wpAnyH_take (i := 5) (oi := ({ dst := some 47, op := Op.load 3 (Operand.tmp 46), type := 3, pos := "law.go:179", after := #[{ on := 4, ground := Ground.data }], guard := none } : Oper)) (v := ?_) rfl (by kernel_rfl) (by kernel_rfl) (by kernel_rfl) (fun _ _ _ h => h) (Or.inl ⟨by rfl, ?_⟩) (by assumption) ?_
        rotate_left
        · (intro w hSw; (try dsimp only at hSw); go_simp) <;> with_reducible rfl
        (try simp only [Act.put, List.setIfInBounds_toArray, List.set_cons_zero, List.set_cons_succ])
        refine wpAnyH_take (i := 6) (oi := ({ dst := some 48, op := Op.move (Operand.tmp 1), type := 22, pos := "law.go:179", after := #[], guard := none } : Oper)) (v := ?_) rfl (by kernel_rfl) (by kernel_rfl) (by kernel_rfl) (fun _ _ _ h => h) (Or.inl ⟨by rfl, ?_⟩) (by assumption) ?_
        rotate_left
        · (intro w hSw; (try dsimp only at hSw); go_simp) <;> with_reducible rfl
        (try simp only [Act.put, List.setIfInBounds_toArray, List.set_cons_zero, List.set_cons_succ])
        refine wpAnyH_take (i := 7) (oi := ({ dst := some 49, op := Op.move (Operand.tmp 11), type := 3, pos := "law.go:179", after := #[], guard := none } : Oper)) (v := ?_) rfl (by kernel_rfl) (by kernel_rfl) (by kernel_rfl) (fun _ _ _ h => h) (Or.inl ⟨by rfl, ?_⟩) (by assumption) ?_
        rotate_left
        · (intro w hSw; (try dsimp only at hSw); go_simp) <;> with_reducible rfl
        (try simp only [Act.put, List.setIfInBounds_toArray, List.set_cons_zero, List.set_cons_succ])
        refine wpAnyH_take (i := 8) (oi := ({ dst := some 50, op := Op.indexAddr 22 (Operand.tmp 48) (Operand.tmp 49), type := 0, pos := "law.go:179", after := #[{ on := 6, ground := Ground.data }, { on := 7, ground := Ground.data }], guard := none } : Oper)) (v := ?_) rfl (by kernel_rfl) (by kernel_rfl) (by kernel_rfl) (fun _ _ _ h => h) (Or.inl ⟨by rfl, ?_⟩) (by assumption) ?_
        rotate_left
        · (intro w hSw; (try dsimp only at hSw); go_simp) <;> with_reducible rfl
        (try simp only [Act.put, List.setIfInBounds_toArray, List.set_cons_zero, List.set_cons_succ])
        refine wpAnyH_take (i := 9) (oi := ({ dst := some 51, op := Op.fieldAddr 31 (Operand.tmp 50) 2, type := 0, pos := "law.go:179", after := #[{ on := 8, ground := Ground.data }], guard := none } : Oper)) (v := ?_) rfl (by kernel_rfl) (by kernel_rfl) (by kernel_rfl) (fun _ _ _ h => h) (Or.inl ⟨by rfl, ?_⟩) (by assumption) ?_
        rotate_left
        · (intro w hSw; (try dsimp only at hSw); go_simp) <;> with_reducible rfl
        (try simp only [Act.put, List.setIfInBounds_toArray, List.set_cons_zero, List.set_cons_succ])
        refine wpAnyH_take (i := 10) (oi := ({ dst := some 52, op := Op.load 3 (Operand.tmp 51), type := 3, pos := "law.go:179", after := #[{ on := 9, ground := Ground.data }], guard := none } : Oper)) (v := ?_) rfl (by kernel_rfl) (by kernel_rfl) (by kernel_rfl) (fun _ _ _ h => h) (Or.inl ⟨by rfl, ?_⟩) (by assumption) ?_
        rotate_left
        · (intro w hSw; (try dsimp only at hSw); go_simp) <;> with_reducible rfl
        (try simp only [Act.put, List.setIfInBounds_toArray, List.set_cons_zero, List.set_cons_succ])
        refine wpAnyH_ready (rs := [11]) (by kernel_rfl) (by simp) ?_
        refine AllReadyH.cons (o := ({ dst := some 53, op := Op.call { callee := Callee.value (Operand.func 12), args := #[Operand.tmp 42, Operand.tmp 47, Operand.tmp 52], argTypes := #[24, 3, 3] }, type := 32, pos := "law.go:179", after := #[{ on := 0, ground := Ground.data }, { on := 5, ground := Ground.data }, { on := 10, ground := Ground.data }], guard := none } : Oper)) rfl (fun K hK => ?_) ?_
        · go_simp
          refine (s_give HS.out.drew (by omega) p n hp).mono ?_
          rintro e w4 ⟨rfl, h4, _⟩
          have H4 := Lib.hid h4
          clear h4
          go_wp2_with fail
          refine hK.out _ _ ?_ (fun hHeld => ?_)
          · exact HK.out _ H4.out.bel
          clear hK K
          (try simp only [Act.put, List.setIfInBounds_toArray, List.set_cons_zero, List.set_cons_succ])
          refine wpAnyH_done (by kernel_rfl) ?_ _
          refine NoPanic.normal ?_
          go_wp2_with fail
          go_roundw
          case rel => exact ⟨k + 1, _, _, by omega, by go_num, H4.out⟩
          case measure => simp [intOf]; omega
        exact AllReadyH.nil
      | false =>
        go_wp2_with fail
        refine (s_take HS.out (by omega) n).mono ?_
        rintro e w4 ⟨rfl, h4, _⟩
        have H4 := Lib.hid h4
        clear h4
        go_wp2_with fail
        go_roundw
        case rel => exact ⟨k + 1, _, _, by omega, by go_num, H4.out⟩
        case measure => simp [intOf]; omega
    · have HK := Lib.hid hk
      clear hk
      go_wp2_with fail
      refine (s_runs HS.out).mono ?_
      rintro e w5 ⟨A5, t5, c5, rfl, ht5, r5, b5⟩
      have H5 := Lib.hid (HS.out.below b5)
      have R5 := Lib.hid (And.intro r5 ht5)
      clear r5 b5 ht5 HS
      go_wp2_with fail
      refine (s_ticks H5.out).mono ?_
      rintro e w7 ⟨rfl, b7⟩
      have H7 := Lib.hid (And.intro (H5.out.below b7) (R5.out.1.below b7))
      clear b7
      go_wp2_with fail
      refine (s_take H7.out.1 (by have := HK.out; omega) (n2 : Int)).mono ?_
      rintro e w8 ⟨rfl, h8, g8⟩
      have R8 := Lib.hid (H7.out.1.runs H7.out.2 g8)
      have hT0 := H7.out.1.fit.t0
      have hT1 := H7.out.1.fit.t1
      have hK := HK.out
      have hlen := len_big H7.out.1.fit.ok (by have := H7.out.1.p1; omega) H7.out.1.p2
      have ht5 := R5.out.2
      have hlt5 : t5 ≤ 1048577 := by omega
      rcases Bool.eq_false_or_eq_true (takeB l (n2 : Int)) with hb | hb
      · have ht := take_step H7.out.1.fit.ok hb
        have hbk := back_step H7.out.1.fit.ok hb
        have e1 : tkE l (n2 : Int) = 0 := by rw [tkE, if_neg (by omega), if_pos hb]
        have e2 : tkT l (n2 : Int) T = T + 1 + (t5 : Int) := by rw [tkT, if_pos hb, R5.out.2]
        have e3 : tkL l (n2 : Int) = takeL l (n2 : Int) := by rw [tkL, if_pos hb]
        have hlL := takeL_length (l := l) (n := (n2 : Int))
        have HP := Lib.hid (And.intro hbk.1 (And.intro hbk.2 ht.2.2.2.2.2.1))
        rw [e2, e3] at h8
        rw [e1]
        have H8 := Lib.hid h8
        obtain ⟨tp, htp⟩ : ∃ tp, tp = takeP l (n2 : Int) := ⟨_, rfl⟩
        rw [← htp] at HP ⊢
        clear h8 hb e1 e2 e3 htp ht hbk ht5
        go_wp2_with fail
        refine (s_runs H8.out).mono ?_
        rintro e w9 ⟨A6, t6, c6, rfl, ht6, r6, b6⟩
        have H9 := Lib.hid (And.intro (H8.out.below b6) (R8.out.below b6))
        have T6 := Lib.hid ht6
        have hw1 : wrap64 (T + 2) = T + 2 := by unfold wrap64; omega
        have hw2 : wrap64 (T + 2 + (t5 : Int)) = T + 2 + (t5 : Int) := by unfold wrap64; omega
        have hw3 : wrap64 (T + 2 + (t5 : Int) + (t6 : Int)) = T + 2 + (t5 : Int) + (t6 : Int) := by unfold wrap64; omega
        clear b6 r6 ht6 hT0 hT1 hK hlen hlt5 hlL
        go_wp2_with fail
        refine (s_give H9.out.1 (by have := HK.out; omega) tp (n2 : Int) (by have := HP.out.2.2; omega)).mono ?_
        rintro e w10 ⟨rfl, h10, g10⟩
        have e4 : gvE (takeL l (n2 : Int)) P tp (n2 : Int) = 0 := by rw [gvE, if_pos HP.out.1]
        have e5 : gvL (takeL l (n2 : Int)) P tp (n2 : Int) = l := by rw [gvL, if_pos HP.out.1]; exact HP.out.2.1
        have e6 : gvT (takeL l (n2 : Int)) P tp (n2 : Int) (T + 1 + (t5 : Int)) = T + 2 + (t5 : Int) + (t6 : Int) := by rw [gvT, if_pos HP.out.1, T6.out]; omega
        rw [e4]
        rw [e5, e6] at h10
        have H10 := Lib.hid (And.intro h10 (H9.out.1.runs H9.out.2 g10))
        clear h10 g10 e4 e5 e6
        go_wp2_with fail
        refine (s_ticks H10.out.1).mono ?_
        rintro e w11 ⟨rfl, b11⟩
        have H11 := Lib.hid (And.intro (H10.out.1.below b11) (H10.out.2.below b11))
        clear b11
        go_wp2_with fail
        obtain ⟨wB, hwB⟩ : ∃ wB, wB = w11 := ⟨_, rfl⟩
        rw [← hwB]
        have HB := Lib.hid (show Std w wB g P l (T + 2 + (t5 : Int) + (t6 : Int)) (k + 1 + 1) ∧ Runs wB A5 l from by rw [hwB]; exact ⟨H11.out.1, H11.out.2⟩)
        clear hwB
        refine (s_new (w0 := wB) (Below.refl _ _) 1000 1000 (by decide)).mono ?_
        rintro e x1 ⟨gb, rfl, k1, _, _⟩
        have K1 := Lib.hid k1
        clear k1
        go_wp2_with fail
        refine (s_take K1.out (by omega) ((n2 : Int) + 1)).mono ?_
        rintro e x2 ⟨rfl, k2, _⟩
        have o1 := one_step (p := 0) (q := 1000) (n := (n2 : Int) + 1) (by omega) (by omega)
        rw [o1.2.2] at k2
        rw [o1.1, o1.2.1]
        have K2 := Lib.hid k2
        clear k2 o1
        go_wp2_with fail
        refine (s_take K2.out (by omega) ((n3 : Int) + 1)).mono ?_
        rintro e x3 ⟨rfl, k3, _⟩
        have o2 := one_step (p := 0 + ((n2 : Int) + 1)) (q := 1000 - ((n2 : Int) + 1)) (n := (n3 : Int) + 1) (by omega) (by omega)
        rw [o2.1, o2.2.1]
        have K3 := Lib.hid k3
        clear k3 o2
        have hz : (0 : Int) + ((n2 : Int) + 1) = (n2 : Int) + 1 := by omega
        rw [hz]
        clear hz
        go_wp2_with fail
        refine (s_runs (HB.out.1.below K3.out.bel)).mono ?_
        rintro e x4 ⟨A9, t9, c9, rfl, ht9, r9, b9⟩
        have K4 := Lib.hid (And.intro (below_call K3.out.bel b9) (And.intro ht9 r9))
        clear b9 r9 ht9
        go_wp2_with fail
        refine (same_any _ A9 A5 l l t9 c9 t5 c5 K4.out.2.1 R5.out.2 K4.out.2.2 (HB.out.2.below K4.out.1) (by have := len_big HB.out.1.fit.ok (by have := HB.out.1.p1; omega) HB.out.1.p2; have := K4.out.2.1; omega)).mono ?_
        rintro e x5 ⟨rfl, b10⟩
        rw [show decide (l = l) = true by simp]
        have K5 := Lib.hid (below_call (below_call HB.out.1.bel K4.out.1) b10)
        clear b10
        go_wp2_with fail
        go_ret
        exact ⟨rfl, K5.out⟩
      · have e2 : tkT l (n2 : Int) T = T := by rw [tkT, hb]; rfl
        have e3 : tkL l (n2 : Int) = l := by rw [tkL, hb]; rfl
        have e4 : ¬ (tkE l (n2 : Int) = 0) := by
          rw [tkE, hb]
          by_cases hn : (n2 : Int) < 1
          · rw [if_pos hn]; omega
          · rw [if_neg hn]; simp
        rw [e2, e3] at h8
        have H8 := Lib.hid h8
        obtain ⟨te, hte⟩ : ∃ te, te = tkE l (n2 : Int) := ⟨_, rfl⟩
        rw [← hte] at e4 ⊢
        have e5 : (te == 0) = false := by simp [e4]
        clear h8 hb e2 e3 hte hT0 hT1 hK hlen ht5 hlt5
        go_wp2_with fail
        obtain ⟨wB, hwB⟩ : ∃ wB, wB = w8 := ⟨_, rfl⟩
        rw [← hwB]
        have HB := Lib.hid (show Std w wB g P l T (k + 1) ∧ Runs wB A5 l from by rw [hwB]; exact ⟨H8.out, R8.out⟩)
        clear hwB
        refine (s_new (w0 := wB) (Below.refl _ _) 1000 1000 (by decide)).mono ?_
        rintro e x1 ⟨gb, rfl, k1, _, _⟩
        have K1 := Lib.hid k1
        clear k1
        go_wp2_with fail
        refine (s_take K1.out (by omega) ((n2 : Int) + 1)).mono ?_
        rintro e x2 ⟨rfl, k2, _⟩
        have o1 := one_step (p := 0) (q := 1000) (n := (n2 : Int) + 1) (by omega) (by omega)
        rw [o1.2.2] at k2
        rw [o1.1, o1.2.1]
        have K2 := Lib.hid k2
        clear k2 o1
        go_wp2_with fail
        refine (s_take K2.out (by omega) ((n3 : Int) + 1)).mono ?_
        rintro e x3 ⟨rfl, k3, _⟩
        have o2 := one_step (p := 0 + ((n2 : Int) + 1)) (q := 1000 - ((n2 : Int) + 1)) (n := (n3 : Int) + 1) (by omega) (by omega)
        rw [o2.1, o2.2.1]
        have K3 := Lib.hid k3
        clear k3 o2
        have hz : (0 : Int) + ((n2 : Int) + 1) = (n2 : Int) + 1 := by omega
        rw [hz]
        clear hz
        go_wp2_with fail
        refine (s_runs (HB.out.1.below K3.out.bel)).mono ?_
        rintro e x4 ⟨A9, t9, c9, rfl, ht9, r9, b9⟩
        have K4 := Lib.hid (And.intro (below_call K3.out.bel b9) (And.intro ht9 r9))
        clear b9 r9 ht9
        go_wp2_with fail
        refine (same_any _ A9 A5 l l t9 c9 t5 c5 K4.out.2.1 R5.out.2 K4.out.2.2 (HB.out.2.below K4.out.1) (by have := len_big HB.out.1.fit.ok (by have := HB.out.1.p1; omega) HB.out.1.p2; have := K4.out.2.1; omega)).mono ?_
        rintro e x5 ⟨rfl, b10⟩
        rw [show decide (l = l) = true by simp]
        have K5 := Lib.hid (below_call (below_call HB.out.1.bel K4.out.1) b10)
        clear b10
        go_wp2_with fail
        go_ret
        exact ⟨rfl, K5.out⟩

/-! The row's step. -/
set_option maxRecDepth 100000 in
theorem lifted (os : Os) (started : os.Started) (H : Type) (enc : TypeId × Value → H) :
    ReturnsInHanded {} Try.checked os 7 .any (Rows.pagerunBackSpec.pre6 enc Try.prog Try.f7 Rows.pagerunBackRow.domain false) (Rows.pagerunBackSpec.post enc Try.prog Try.f7 false true false false) := by
  refine returnsInHanded_of_change (C := Try.checked) own started (by kernel_rfl) Try.func7
    (ChangeSpec.witness6 (enc := enc) (C := Try.checked) false ⟨#[], #[.int .u16 0, .slice none 0 0, .int .u8 0, .int .u8 0], []⟩ 8 (by kernel_rfl) (by kernel_rfl) (by kernel_rfl) (by kernel_rfl)) ?_
  intro W base args ds gs before hval0 hW hcnd _
  have hval : ∀ (j : Nat) t v, Try.f7.params[j]? = some t → args[j]? = some v → Value.okWide Try.prog W .any base t v := hval0
  have hW' := hW
  obtain ⟨p, q, hA0, hV, rfl, hfz, hnd⟩ := hW
  have hA : DataW.TrodAll enc Try.prog W 0 (fun _ => true) true Try.f7.params.toList args.toList ds p := hA0
  rw [Try.params7] at hA hval
  obtain ⟨v0, vs0, d0, ds0, p0, q0, hargs, rfl, rfl, h0, r0⟩ := trodAll_cons hA
  obtain ⟨v1, vs1, d1, ds1, p1, q1, rfl, rfl, rfl, h1, r1⟩ := trodAll_cons r0
  obtain ⟨v2, vs2, d2, ds2, p2, q2, rfl, rfl, rfl, h2, r2⟩ := trodAll_cons r1
  obtain ⟨v3, vs3, d3, ds3, p3, q3, rfl, rfl, rfl, h3, r3⟩ := trodAll_cons r2
  obtain ⟨rfl, rfl, rfl⟩ := trodAll_nil r3
  obtain rfl : args = #[v0, v1, v2, v3] := by cases args; simp_all
  obtain ⟨rfl, rfl⟩ := trodVars_none hV
  obtain ⟨a0, rfl, rfl, rfl, w0⟩ := open_int Try.underlying54 (hval 0 54 v0 rfl rfl) h0
  obtain ⟨a1, len1, cap1, rfl⟩ := okWide_slice Try.underlying22 (hval 1 22 v1 rfl rfl)
  have k1 := h1
  have lt1 : ∀ x ∈ p1, x.block < W.heap.size := by obtain ⟨m, hm⟩ := k1; exact DataW.trod_lt m _ _ _ hm
  have w1 : IsActs W a1 len1 := by
    obtain ⟨fuel, hf⟩ := h1
    obtain ⟨A, l, c, hcs, hw⟩ := acts_open hf
    simp [Value.cells] at hcs
    obtain ⟨rfl, rfl, rfl⟩ := hcs
    exact hw
  obtain ⟨a2, rfl, rfl, rfl, w2⟩ := open_int Try.underlying5 (hval 2 5 v2 rfl rfl) h2
  obtain ⟨a3, rfl, rfl, rfl, w3⟩ := open_int Try.underlying5 (hval 3 5 v3 rfl rfl) h3
  clear hA0 hval0
  refine (walk a0 a1 len1 cap1 a2 a3 W w0 w1 w2 w3).mono fun e W' ⟨he, bel⟩ => ?_
  subst he
  exact ⟨_, rfl, _, _, _, [], _, [], hW', trodAll_mk1 (shut_bool Try.underlying4 _), (trodAll_cons_mk (shut_int Try.underlying54 w0) (trodAll_cons_mk (Below.trod laidOut (by kernel_rfl) (of_decide_eq_true (by kernel_rfl)) k1 bel lt1) (trodAll_cons_mk (shut_int Try.underlying5 w2) (trodAll_cons_mk (shut_int Try.underlying5 w3) trodAll_mk0)))), rfl, bel.frame _, fun h => by cases h⟩

theorem over : Rows.pagerunBackRow.holds Try.pinned (OpenSpec.ofChange Rows.pagerunBackSpec) :=
  OpenClaim.holds_of_wide 7 Try.f7 rfl rfl rfl rfl rfl rfl rfl ⟨rfl, rfl, rfl, rfl, rfl⟩ rfl rfl rfl rfl rfl (by kernel_rfl) Try.func7 (by kernel_rfl)
    (of_decide_eq_true (by kernel_rfl)) (by unfold Func.isWrapper; first | (rw [if_pos (by decide +kernel)]; kernel_rfl) | (rw [if_neg (by decide +kernel)]; exact ⟨rfl, rfl⟩))
    (fun os started H enc _ => lifted os started H enc)

/-- The statement. -/
theorem proved : Rows.PagerunBackSaid := over
#print axioms proved
end Go.Proofs.Ytloiomfbmabfbaa.pagerunBack
