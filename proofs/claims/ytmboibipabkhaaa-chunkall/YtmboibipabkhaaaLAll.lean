/-
  ChunkAll is true whatever the input: when all chunks are put, and trimmed, there is one run of all pages, and then a chunk of all of them can be got; no conditions.
-/
import Derived.Test.YtmboibipabkhaaaRows
import Derived.WalkKit
import Derived.ProofKit
import Derived.OpenShut
import Derived.ShutString
import Derived.ChangeOld
import Derived.Below
import Derived.Test.YtmboibipabkhaaaK11
namespace Go.Proofs.Ytmboibipabkhaaa.chunkAll
open Go.ChangeShapes Go.WideShapes Go.ChangeAt Go.RowKit
set_option linter.unusedVariables false

theorem own : ownKnob Try.prog.godebug = none := by kernel_rfl

/-! The walk. -/
set_option maxRecDepth 20000 in
set_option maxHeartbeats 8000000 in
theorem walk (a0 : Int) (a1 : Option Addr) (len1 cap1 : Nat) (w : World) (w0 : (Lit.int .u8 a0).wf = true) (w1 : IsActs w a1 len1) :
    Calls Try.prog 4 #[.int .u8 a0, .slice a1 len1 cap1] w fun e w' => e = .returned (.bool true) ∧ Below w.heap.size w w' := by
  obtain ⟨n0, hn0, rfl⟩ := u8_nat w0
  obtain ⟨hl63, L, hL, hActs⟩ := w1
  clear w0
  obtain ⟨N, hN⟩ : ∃ N : Nat, (N : Int) = min (max (n0 : Int) 1) 1048576 := ⟨max n0 1, by omega⟩
  have HN := Lib.hid (show (N : Int) = min (max (n0 : Int) 1) 1048576 ∧ 1 ≤ N ∧ N ≤ 255 by omega)
  have HA := Lib.hid (And.intro hL hActs)
  clear hN hActs hL
  go_enter Try.func4, Try.ntmps4
  go_wp2_with fail
  refine (awake10_any _).mono ?_
  rintro e w1 ⟨rfl, b1⟩
  have B1 := Lib.hid b1
  clear b1
  by_cases h50 : 50 < len1
  · go_wp2_with fail
    go_ret
    exact ⟨rfl, B1.out⟩
  · have d50 : decide (50 < (len1 : Int)) = false := by simp; omega
    go_wp2_with fail
    clear d50
    refine (cnew_any B1.out (n0 : Int) N HN.out.1).mono ?_
    rintro e w2 ⟨s, a, b, c, Q0, rfl, h2, _, _, _⟩
    have H2 := Lib.hid h2
    clear h2
    go_wp2_with fail
    refine (cspace_any H2.out).mono ?_
    rintro e w3 ⟨rfl, b3⟩
    have H3 := Lib.hid (H2.out.below b3)
    clear b3 H2
    go_wp2_with fail
    refine (st_size H3.out.st).mono ?_
    rintro e w4 ⟨rfl, rfl⟩
    have H4 := Lib.hid (show AllS w w3 s a b c N 0 0 0 none (St.new N) Q0 [] from ⟨H3.out.noD rowD_none, Lst.none' _ _ _ _ _ _, Inv.new N (by have := HN.out; omega), by simp [St.new], rfl, by omega⟩)
    clear H3
    go_wp2_with fail
    go_loopw [8, 9] (fun sl i wr => ∃ (j t cc : Nat) (A : Option Addr) (Z : St) (Q : Nat → Prop) (G : List M.R), j ≤ len1 ∧ i = .int .i64 (j : Int) ∧ sl = .slice A t cc ∧ Hid (AllS w wr s a b c N j t cc A Z Q G)) (fun _ i _ => len1 - (intOf i).toNat)
    case atStart => exact ⟨0, 0, 0, none, _, _, [], by omega, rfl, rfl, H4⟩
    case round =>
      clear H4
      obtain ⟨j, t, cc, A, Z, Q, G, hj, rfl, rfl, HI⟩ := hrel
      by_cases hlt : j < len1
      · have hjl : j < L.length := by have := HA.out.1; omega
        obtain ⟨bl, o, rfl, hc⟩ := HA.out.2 (by omega)
        have ha := hc j hjl
        obtain ⟨x, hx⟩ : ∃ x, x = L[j] := ⟨_, rfl⟩
        rw [← hx] at ha
        obtain ⟨d, p, kd, ow, ix⟩ := x
        have HACT := Lib.hid (Chk.act ha)
        have HR := Lib.hid (show ow < 18446744073709551616 ∧ j ≤ 50 from ⟨ha.or, by omega⟩)
        have e0 := (HACT.out wr HI.out.chk.bel).c0
        simp only at e0
        clear hc hx ha
        rcases (by omega : d = 0 ∨ d = 1 ∨ 2 ≤ d) with hd | hd | hd
        · subst hd
          go_upto_region 13 with fail
          have HG := Lib.hid (HI.out.inv.gt (by have := HN.out; omega) p kd ow HR.out.1)
          have f1 := (HACT.out wr HI.out.chk.bel).c1
          have f2 := (HACT.out wr HI.out.chk.bel).c2
          have f3 := (HACT.out wr HI.out.chk.bel).c3
          simp only at f1 f2 f3
          clear e0
          refine wp_region_noPanic ?_
          refine wp_region_held_drew (S := fun W => W.cell? ⟨bl, o + j * 5 + 1, none⟩ = some (.int .i64 p) ∧ W.cell? ⟨bl, o + j * 5 + 2, none⟩ = some (.int .i64 kd) ∧ W.cell? ⟨bl, o + j * 5 + 3, none⟩ = some (.int .u64 (ow : Int))) (by kernel_rfl) (⟨f1, f2, f3⟩) (fun hHeld => ?_)
          refine wpAnyH_take (i := 0) (oi := ({ dst := some 43, op := Op.move (Operand.tmp 6), type := 24, pos := "law.go:162", after := #[], guard := none } : Oper)) (v := ?_) rfl (by kernel_rfl) (by kernel_rfl) (by kernel_rfl) (fun _ _ _ h => h) (Or.inl ⟨by rfl, ?_⟩) (by assumption) ?_
          rotate_left
          · (intro w hSw; (try dsimp only at hSw); go_simp) <;> with_reducible rfl
          (try simp only [Act.put, List.setIfInBounds_toArray, List.set_cons_zero, List.set_cons_succ])
          refine wpAnyH_take (i := 1) (oi := ({ dst := some 44, op := Op.move (Operand.tmp 1), type := 22, pos := "law.go:162", after := #[], guard := none } : Oper)) (v := ?_) rfl (by kernel_rfl) (by kernel_rfl) (by kernel_rfl) (fun _ _ _ h => h) (Or.inl ⟨by rfl, ?_⟩) (by assumption) ?_
          rotate_left
          · (intro w hSw; (try dsimp only at hSw); go_simp) <;> with_reducible rfl
          (try simp only [Act.put, List.setIfInBounds_toArray, List.set_cons_zero, List.set_cons_succ])
          refine wpAnyH_take (i := 2) (oi := ({ dst := some 45, op := Op.move (Operand.tmp 9), type := 3, pos := "law.go:162", after := #[], guard := none } : Oper)) (v := ?_) rfl (by kernel_rfl) (by kernel_rfl) (by kernel_rfl) (fun _ _ _ h => h) (Or.inl ⟨by rfl, ?_⟩) (by assumption) ?_
          rotate_left
          · (intro w hSw; (try dsimp only at hSw); go_simp) <;> with_reducible rfl
          (try simp only [Act.put, List.setIfInBounds_toArray, List.set_cons_zero, List.set_cons_succ])
          refine wpAnyH_take (i := 3) (oi := ({ dst := some 46, op := Op.indexAddr 22 (Operand.tmp 44) (Operand.tmp 45), type := 0, pos := "law.go:162", after := #[{ on := 1, ground := Ground.data }, { on := 2, ground := Ground.data }], guard := none } : Oper)) (v := ?_) rfl (by kernel_rfl) (by kernel_rfl) (by kernel_rfl) (fun _ _ _ h => h) (Or.inl ⟨by rfl, ?_⟩) (by assumption) ?_
          rotate_left
          · (intro w hSw; (try dsimp only at hSw); go_simp) <;> with_reducible rfl
          (try simp only [Act.put, List.setIfInBounds_toArray, List.set_cons_zero, List.set_cons_succ])
          refine wpAnyH_take (i := 4) (oi := ({ dst := some 47, op := Op.fieldAddr 32 (Operand.tmp 46) 1, type := 0, pos := "law.go:162", after := #[{ on := 3, ground := Ground.data }], guard := none } : Oper)) (v := ?_) rfl (by kernel_rfl) (by kernel_rfl) (by kernel_rfl) (fun _ _ _ h => h) (Or.inl ⟨by rfl, ?_⟩) (by assumption) ?_
          rotate_left
          · (intro w hSw; (try dsimp only at hSw); go_simp) <;> with_reducible rfl
          (try simp only [Act.put, List.setIfInBounds_toArray, List.set_cons_zero, List.set_cons_succ])
          refine wpAnyH_take (i := 5) (oi := ({ dst := some 48, op := Op.load 3 (Operand.tmp 47), type := 3, pos := "law.go:162", after := #[{ on := 4, ground := Ground.data }], guard := none } : Oper)) (v := ?_) rfl (by kernel_rfl) (by kernel_rfl) (by kernel_rfl) (fun _ _ _ h => h) (Or.inl ⟨by rfl, ?_⟩) (by assumption) ?_
          rotate_left
          · (intro w hSw; (try dsimp only at hSw); go_simp) <;> with_reducible rfl
          (try simp only [Act.put, List.setIfInBounds_toArray, List.set_cons_zero, List.set_cons_succ])
          refine wpAnyH_take (i := 6) (oi := ({ dst := some 49, op := Op.move (Operand.tmp 1), type := 22, pos := "law.go:162", after := #[], guard := none } : Oper)) (v := ?_) rfl (by kernel_rfl) (by kernel_rfl) (by kernel_rfl) (fun _ _ _ h => h) (Or.inl ⟨by rfl, ?_⟩) (by assumption) ?_
          rotate_left
          · (intro w hSw; (try dsimp only at hSw); go_simp) <;> with_reducible rfl
          (try simp only [Act.put, List.setIfInBounds_toArray, List.set_cons_zero, List.set_cons_succ])
          refine wpAnyH_take (i := 7) (oi := ({ dst := some 50, op := Op.move (Operand.tmp 9), type := 3, pos := "law.go:162", after := #[], guard := none } : Oper)) (v := ?_) rfl (by kernel_rfl) (by kernel_rfl) (by kernel_rfl) (fun _ _ _ h => h) (Or.inl ⟨by rfl, ?_⟩) (by assumption) ?_
          rotate_left
          · (intro w hSw; (try dsimp only at hSw); go_simp) <;> with_reducible rfl
          (try simp only [Act.put, List.setIfInBounds_toArray, List.set_cons_zero, List.set_cons_succ])
          refine wpAnyH_take (i := 8) (oi := ({ dst := some 51, op := Op.indexAddr 22 (Operand.tmp 49) (Operand.tmp 50), type := 0, pos := "law.go:162", after := #[{ on := 6, ground := Ground.data }, { on := 7, ground := Ground.data }], guard := none } : Oper)) (v := ?_) rfl (by kernel_rfl) (by kernel_rfl) (by kernel_rfl) (fun _ _ _ h => h) (Or.inl ⟨by rfl, ?_⟩) (by assumption) ?_
          rotate_left
          · (intro w hSw; (try dsimp only at hSw); go_simp) <;> with_reducible rfl
          (try simp only [Act.put, List.setIfInBounds_toArray, List.set_cons_zero, List.set_cons_succ])
          refine wpAnyH_take (i := 9) (oi := ({ dst := some 52, op := Op.fieldAddr 32 (Operand.tmp 51) 2, type := 0, pos := "law.go:162", after := #[{ on := 8, ground := Ground.data }], guard := none } : Oper)) (v := ?_) rfl (by kernel_rfl) (by kernel_rfl) (by kernel_rfl) (fun _ _ _ h => h) (Or.inl ⟨by rfl, ?_⟩) (by assumption) ?_
          rotate_left
          · (intro w hSw; (try dsimp only at hSw); go_simp) <;> with_reducible rfl
          (try simp only [Act.put, List.setIfInBounds_toArray, List.set_cons_zero, List.set_cons_succ])
          refine wpAnyH_take (i := 10) (oi := ({ dst := some 53, op := Op.load 3 (Operand.tmp 52), type := 3, pos := "law.go:162", after := #[{ on := 9, ground := Ground.data }], guard := none } : Oper)) (v := ?_) rfl (by kernel_rfl) (by kernel_rfl) (by kernel_rfl) (fun _ _ _ h => h) (Or.inl ⟨by rfl, ?_⟩) (by assumption) ?_
          rotate_left
          · (intro w hSw; (try dsimp only at hSw); go_simp) <;> with_reducible rfl
          (try simp only [Act.put, List.setIfInBounds_toArray, List.set_cons_zero, List.set_cons_succ])
          refine wpAnyH_take (i := 11) (oi := ({ dst := some 54, op := Op.move (Operand.tmp 1), type := 22, pos := "law.go:162", after := #[], guard := none } : Oper)) (v := ?_) rfl (by kernel_rfl) (by kernel_rfl) (by kernel_rfl) (fun _ _ _ h => h) (Or.inl ⟨by rfl, ?_⟩) (by assumption) ?_
          rotate_left
          · (intro w hSw; (try dsimp only at hSw); go_simp) <;> with_reducible rfl
          (try simp only [Act.put, List.setIfInBounds_toArray, List.set_cons_zero, List.set_cons_succ])
          refine wpAnyH_take (i := 12) (oi := ({ dst := some 55, op := Op.move (Operand.tmp 9), type := 3, pos := "law.go:162", after := #[], guard := none } : Oper)) (v := ?_) rfl (by kernel_rfl) (by kernel_rfl) (by kernel_rfl) (fun _ _ _ h => h) (Or.inl ⟨by rfl, ?_⟩) (by assumption) ?_
          rotate_left
          · (intro w hSw; (try dsimp only at hSw); go_simp) <;> with_reducible rfl
          (try simp only [Act.put, List.setIfInBounds_toArray, List.set_cons_zero, List.set_cons_succ])
          refine wpAnyH_take (i := 13) (oi := ({ dst := some 56, op := Op.indexAddr 22 (Operand.tmp 54) (Operand.tmp 55), type := 0, pos := "law.go:162", after := #[{ on := 11, ground := Ground.data }, { on := 12, ground := Ground.data }], guard := none } : Oper)) (v := ?_) rfl (by kernel_rfl) (by kernel_rfl) (by kernel_rfl) (fun _ _ _ h => h) (Or.inl ⟨by rfl, ?_⟩) (by assumption) ?_
          rotate_left
          · (intro w hSw; (try dsimp only at hSw); go_simp) <;> with_reducible rfl
          (try simp only [Act.put, List.setIfInBounds_toArray, List.set_cons_zero, List.set_cons_succ])
          refine wpAnyH_take (i := 14) (oi := ({ dst := some 57, op := Op.fieldAddr 32 (Operand.tmp 56) 3, type := 0, pos := "law.go:162", after := #[{ on := 13, ground := Ground.data }], guard := none } : Oper)) (v := ?_) rfl (by kernel_rfl) (by kernel_rfl) (by kernel_rfl) (fun _ _ _ h => h) (Or.inl ⟨by rfl, ?_⟩) (by assumption) ?_
          rotate_left
          · (intro w hSw; (try dsimp only at hSw); go_simp) <;> with_reducible rfl
          (try simp only [Act.put, List.setIfInBounds_toArray, List.set_cons_zero, List.set_cons_succ])
          refine wpAnyH_take (i := 15) (oi := ({ dst := some 58, op := Op.load 30 (Operand.tmp 57), type := 30, pos := "law.go:162", after := #[{ on := 14, ground := Ground.data }], guard := none } : Oper)) (v := ?_) rfl (by kernel_rfl) (by kernel_rfl) (by kernel_rfl) (fun _ _ _ h => h) (Or.inl ⟨by rfl, ?_⟩) (by assumption) ?_
          rotate_left
          · (intro w hSw; (try dsimp only at hSw); go_simp) <;> with_reducible rfl
          (try simp only [Act.put, List.setIfInBounds_toArray, List.set_cons_zero, List.set_cons_succ])
          refine wpAnyH_ready (rs := [16]) (by kernel_rfl) (by simp) ?_
          refine AllReadyH.cons (o := ({ dst := some 59, op := Op.call { callee := Callee.value (Operand.func 13), args := #[Operand.tmp 43, Operand.tmp 48, Operand.tmp 53, Operand.tmp 58], argTypes := #[24, 3, 3, 30] }, type := 34, pos := "law.go:162", after := #[{ on := 0, ground := Ground.data }, { on := 5, ground := Ground.data }, { on := 10, ground := Ground.data }, { on := 15, ground := Ground.data }], guard := none } : Oper)) rfl (fun K hK => ?_) ?_
          · go_simp
            refine (cgetA_any HI.out.chk.drew (by have := HR.out; omega) (by have := HI.out.u; have := HR.out; omega) HI.out.inv p kd ow HR.out.1).mono ?_
            rintro e w4 ⟨rfl, h4, k4⟩
            have H4 := Lib.hid (And.intro h4 ((HI.out.lst.below (Below.refl _ _).drew).call k4))
            have HB4 := Lib.hid h4.bel
            clear h4 k4
            go_wp2_with fail
            refine hK.out _ _ ?_ (fun hHeld => ?_)
            · exact ⟨(HACT.out w4 HB4.out).c1, (HACT.out w4 HB4.out).c2, (HACT.out w4 HB4.out).c3⟩
            clear hK K
            (try simp only [Act.put, List.setIfInBounds_toArray, List.set_cons_zero, List.set_cons_succ])
            refine wpAnyH_take (i := 17) (oi := ({ dst := some 42, op := Op.move (Operand.tmp 59), type := 34, pos := "law.go:162", after := #[{ on := 16, ground := Ground.data }], guard := none } : Oper)) (v := ?_) rfl (by kernel_rfl) (by kernel_rfl) (by kernel_rfl) (fun _ _ _ h => h) (Or.inl ⟨by rfl, ?_⟩) (by assumption) ?_
            rotate_left
            · (intro w hSw; (try dsimp only at hSw); go_simp) <;> with_reducible rfl
            (try simp only [Act.put, List.setIfInBounds_toArray, List.set_cons_zero, List.set_cons_succ])
            refine wpAnyH_take (i := 18) (oi := ({ dst := some 60, op := Op.extract (Operand.tmp 42) 0, type := 3, pos := "law.go:162", after := #[{ on := 17, ground := Ground.data }], guard := none } : Oper)) (v := ?_) rfl (by kernel_rfl) (by kernel_rfl) (by kernel_rfl) (fun _ _ _ h => h) (Or.inl ⟨by rfl, ?_⟩) (by assumption) ?_
            rotate_left
            · (intro w hSw; (try dsimp only at hSw); go_simp) <;> with_reducible rfl
            (try simp only [Act.put, List.setIfInBounds_toArray, List.set_cons_zero, List.set_cons_succ])
            refine wpAnyH_take (i := 19) (oi := ({ dst := some 61, op := Op.extract (Operand.tmp 42) 1, type := 3, pos := "law.go:162", after := #[{ on := 17, ground := Ground.data }, { on := 21, ground := Ground.gcOnly Departure.lateStores }], guard := none } : Oper)) (v := ?_) rfl (by kernel_rfl) (by kernel_rfl) (by kernel_rfl) (fun _ _ _ h => h) (Or.inl ⟨by rfl, ?_⟩) (by assumption) ?_
            rotate_left
            · (intro w hSw; (try dsimp only at hSw); go_simp) <;> with_reducible rfl
            (try simp only [Act.put, List.setIfInBounds_toArray, List.set_cons_zero, List.set_cons_succ])
            refine wpAnyH_take (i := 20) (oi := ({ dst := some 62, op := Op.extract (Operand.tmp 42) 2, type := 33, pos := "law.go:162", after := #[{ on := 17, ground := Ground.data }, { on := 22, ground := Ground.gcOnly Departure.lateStores }], guard := none } : Oper)) (v := ?_) rfl (by kernel_rfl) (by kernel_rfl) (by kernel_rfl) (fun _ _ _ h => h) (Or.inl ⟨by rfl, ?_⟩) (by assumption) ?_
            rotate_left
            · (intro w hSw; (try dsimp only at hSw); go_simp) <;> with_reducible rfl
            (try simp only [Act.put, List.setIfInBounds_toArray, List.set_cons_zero, List.set_cons_succ])
            refine wpAnyH_take (i := 21) (oi := ({ dst := some 10, op := Op.assign (Operand.tmp 60), type := 3, pos := "law.go:162", after := #[{ on := 18, ground := Ground.data }, { on := 16, ground := Ground.chain }, { on := 0, ground := Ground.phase }, { on := 1, ground := Ground.phase }, { on := 2, ground := Ground.phase }, { on := 3, ground := Ground.phase }, { on := 4, ground := Ground.phase }, { on := 5, ground := Ground.phase }, { on := 6, ground := Ground.phase }, { on := 7, ground := Ground.phase }, { on := 8, ground := Ground.phase }, { on := 9, ground := Ground.phase }, { on := 10, ground := Ground.phase }, { on := 11, ground := Ground.phase }, { on := 12, ground := Ground.phase }, { on := 13, ground := Ground.phase }, { on := 14, ground := Ground.phase }, { on := 15, ground := Ground.phase }, { on := 16, ground := Ground.phase }, { on := 17, ground := Ground.phase }, { on := 18, ground := Ground.phase }, { on := 19, ground := Ground.textOnly Departure.lateStores }, { on := 20, ground := Ground.textOnly Departure.lateStores }], guard := none } : Oper)) (v := ?_) rfl (by kernel_rfl) (by kernel_rfl) (by kernel_rfl) (fun _ _ _ h => h) (Or.inl ⟨by rfl, ?_⟩) (by assumption) ?_
            rotate_left
            · (intro w hSw; (try dsimp only at hSw); go_simp) <;> with_reducible rfl
            (try simp only [Act.put, List.setIfInBounds_toArray, List.set_cons_zero, List.set_cons_succ])
            refine wpAnyH_take (i := 22) (oi := ({ dst := some 11, op := Op.assign (Operand.tmp 61), type := 3, pos := "law.go:162", after := #[{ on := 19, ground := Ground.data }, { on := 21, ground := Ground.chain }, { on := 0, ground := Ground.phase }, { on := 1, ground := Ground.phase }, { on := 2, ground := Ground.phase }, { on := 3, ground := Ground.phase }, { on := 4, ground := Ground.phase }, { on := 5, ground := Ground.phase }, { on := 6, ground := Ground.phase }, { on := 7, ground := Ground.phase }, { on := 8, ground := Ground.phase }, { on := 9, ground := Ground.phase }, { on := 10, ground := Ground.phase }, { on := 11, ground := Ground.phase }, { on := 12, ground := Ground.phase }, { on := 13, ground := Ground.phase }, { on := 14, ground := Ground.phase }, { on := 15, ground := Ground.phase }, { on := 16, ground := Ground.phase }, { on := 17, ground := Ground.phase }, { on := 18, ground := Ground.phase }, { on := 19, ground := Ground.phase }, { on := 20, ground := Ground.textOnly Departure.lateStores }, { on := 21, ground := Ground.phase }], guard := none } : Oper)) (v := ?_) rfl (by kernel_rfl) (by kernel_rfl) (by kernel_rfl) (fun _ _ _ h => h) (Or.inl ⟨by rfl, ?_⟩) (by assumption) ?_
            rotate_left
            · (intro w hSw; (try dsimp only at hSw); go_simp) <;> with_reducible rfl
            (try simp only [Act.put, List.setIfInBounds_toArray, List.set_cons_zero, List.set_cons_succ])
            refine wpAnyH_take (i := 23) (oi := ({ dst := some 12, op := Op.assign (Operand.tmp 62), type := 33, pos := "law.go:162", after := #[{ on := 20, ground := Ground.data }, { on := 22, ground := Ground.chain }, { on := 0, ground := Ground.phase }, { on := 1, ground := Ground.phase }, { on := 2, ground := Ground.phase }, { on := 3, ground := Ground.phase }, { on := 4, ground := Ground.phase }, { on := 5, ground := Ground.phase }, { on := 6, ground := Ground.phase }, { on := 7, ground := Ground.phase }, { on := 8, ground := Ground.phase }, { on := 9, ground := Ground.phase }, { on := 10, ground := Ground.phase }, { on := 11, ground := Ground.phase }, { on := 12, ground := Ground.phase }, { on := 13, ground := Ground.phase }, { on := 14, ground := Ground.phase }, { on := 15, ground := Ground.phase }, { on := 16, ground := Ground.phase }, { on := 17, ground := Ground.phase }, { on := 18, ground := Ground.phase }, { on := 19, ground := Ground.phase }, { on := 20, ground := Ground.phase }, { on := 21, ground := Ground.phase }, { on := 22, ground := Ground.phase }], guard := none } : Oper)) (v := ?_) rfl (by kernel_rfl) (by kernel_rfl) (by kernel_rfl) (fun _ _ _ h => h) (Or.inl ⟨by rfl, ?_⟩) (by assumption) ?_
            rotate_left
            · (intro w hSw; (try dsimp only at hSw); go_simp) <;> with_reducible rfl
            (try simp only [Act.put, List.setIfInBounds_toArray, List.set_cons_zero, List.set_cons_succ])
            refine wpAnyH_done (by kernel_rfl) ?_ _
            refine NoPanic.normal ?_
            have g0 := (HACT.out w4 HB4.out).c0
            simp only at g0
            generalize Wid Q wr.drew w4 = Q4 at *
            rcases HG.out with ⟨hE, hI, _, _, _, hu⟩ | ⟨hE, _, _, hI, hu⟩
            · have HI4 := Lib.hid (And.intro hI hu)
              rw [hE]
              clear hI hE hu
              obtain ⟨y, hy⟩ : ∃ y, y = gtP N Z p kd := ⟨_, rfl⟩
              rw [← hy] at HI4 ⊢
              clear hy
              have hb5 : Below w4.heap.size w4 (w4.alloc (.cells #[.int .i64 y] 3)) := (Below.refl _ _).alloc (Nat.le_refl _) _
              have OWN := Lib.hid (H4.out.2.below hb5).row
              have SZ := Lib.hid (Nat.le_trans H4.out.1.bel.size hb5.size)
              have ht5 : t ≤ 50 := by have := HI.out.tj; have := HR.out; omega
              obtain ⟨i3, hi, hi0, hi1, hi2⟩ := infoI
              have HI3 := Lib.hid (And.intro hi (And.intro hi0 (And.intro hi1 hi2)))
              clear hb5 hi hi0 hi1 hi2
              go_wp2_with (at_builtin; refine wpList_append_lies _ rfl _ _ 46 rfl w.heap.size 3 i3 (.int .i64 0) 1 8 Try.underlying46 HI3.out.1 HI3.out.2.1 HI3.out.2.2.1 HI3.out.2.2.2 rfl (by decide) (.slice A t cc) t (ints10 (G.map (·.p))) rfl OWN.out ⟨w4.heap.size, 0, none⟩ 1 1 (ints10 [y]) rfl rfl (num_cell10 w4 y) (ints10_one _) (by omega) (by unfold maxLen; omega) (by omega) SZ.out _ rfl ?_; intro g1 c1 w5 hrow hgr hat hlt5; (have HS := Lib.hid (H4.out.1.app1 H4.out.2 hrow hgr hat hlt5)); clear hrow hgr hat hlt5; (have e5 := (HACT.out w5 HS.out.1.bel).c0); simp only at e5)
              have H5 := Lib.hid (show AllS w w5 s a b c N (j + 1) (t + 1) c1 (some ⟨g1, 0, none⟩) (Z.gt N p kd ow) Q4 (G ++ [⟨y, gtN N Z p kd⟩]) from ⟨HS.out.1.more (by omega), by rw [List.map_append]; exact HS.out.2, HI4.out.1.perm (List.perm_append_singleton _ _).symm, by have := HI4.out.2; have := HI.out.u; omega, by rw [List.length_append, HI.out.tl]; rfl, by have := HI.out.tj; omega⟩)
              go_roundw
              case rel => exact ⟨j + 1, t + 1, c1, _, _, _, _, by omega, by have := HR.out; go_num, rfl, H5⟩
              case measure => have := HR.out; simp [intOf]; omega
            · have H5 := Lib.hid (show AllS w w4 s a b c N (j + 1) t cc A (Z.gt N p kd ow) Q4 G from ⟨H4.out.1.more (by omega), H4.out.2, hI, by have := HI.out.u; omega, HI.out.tl, by have := HI.out.tj; omega⟩)
              clear hI hu
              obtain ⟨y, hy⟩ : ∃ y, y = gtE N Z p kd := ⟨_, rfl⟩
              rw [← hy] at hE ⊢
              have t0 : (y == 0) = false := by simp; omega
              clear hy hE
              go_wp2_with fail
              go_roundw
              case rel => exact ⟨j + 1, t, cc, A, _, _, _, by omega, by have := HR.out; go_num, rfl, H5⟩
              case measure => have := HR.out; simp [intOf]; omega
          exact AllReadyH.nil
        · subst hd
          rcases Nat.eq_zero_or_pos t with ht | ht
          · subst ht
            have H5 := Lib.hid (show AllS w wr s a b c N (j + 1) 0 cc A Z Q G from ⟨HI.out.chk.more (by omega), HI.out.lst, HI.out.inv, by have := HI.out.u; omega, HI.out.tl, by have := HI.out.tj; omega⟩)
            go_wp2_with fail
            go_roundw
            case rel => exact ⟨j + 1, 0, cc, A, _, _, _, by omega, by have := HR.out; go_num, rfl, H5⟩
            case measure => have := HR.out; simp [intOf]; omega
          · obtain ⟨y, rfl⟩ : ∃ y, t = y + 1 := ⟨t - 1, by omega⟩
            have hy50 : y ≤ 50 := by have := HI.out.tj; have := HR.out; omega
            obtain ⟨G', r, hG, hGl⟩ := last_of (G := G) (t := y) HI.out.tl.symm
            subst hG
            obtain ⟨g, hA, hcell⟩ := HI.out.lst.cell (j := y) (by simp [hGl])
            subst hA
            have hr : ((G' ++ [r]).map (·.p))[y]'(by simp [hGl]) = r.p := by simp [hGl]
            rw [hr] at hcell
            have hinv := HI.out.inv.perm (List.perm_append_singleton r G')
            obtain ⟨rp, rn⟩ := r
            have HV := Lib.hid hinv
            have wsub : wrap64 ((y : Int) + 1 - 1) = (y : Int) := by unfold wrap64; omega
            have hcap : y + 1 ≤ cc := (row_cap HI.out.lst.row).resolve_right (by omega)
            simp only at hcell
            clear hinv hr
            go_wp2_with fail
            refine (cput_any HI.out.chk (by have := HR.out; omega) (by have := HI.out.u; have := HR.out; omega) rp rn HV.out).mono ?_
            rintro e w5 ⟨rfl, h5, k5⟩
            have H5 := Lib.hid (show AllS w w5 s a b c N (j + 1) y cc (some ⟨g, 0, none⟩) (Z.put N rp rn) (Wid Q wr w5) G' from ⟨h5.more (by omega), by have := HI.out.lst.call k5; rw [List.map_append] at this; exact this.cut, HV.out.put.1, by show Z.u + 3 ≤ _; have := HI.out.u; omega, hGl.symm, by have := HI.out.tj; omega⟩)
            clear h5 k5 hcell
            have ap := fun W => icut_to g 0 (y + 1) cc y (by omega) W
            go_wp2_with fail
            go_roundw
            case rel => exact ⟨j + 1, y, cc, _, _, _, _, by omega, by have := HR.out; go_num, rfl, H5⟩
            case measure => have := HR.out; simp [intOf]; omega
        · have t0 : ((d : Int) == 0) = false := by simp; omega
          have t1 : ((d : Int) == 1) = false := by simp; omega
          have H5 := Lib.hid (show AllS w wr s a b c N (j + 1) t cc A Z Q G from ⟨HI.out.chk.more (by omega), HI.out.lst, HI.out.inv, by have := HI.out.u; omega, HI.out.tl, by have := HI.out.tj; omega⟩)
          go_wp2_with fail
          go_roundw
          case rel => exact ⟨j + 1, t, cc, A, _, _, _, by omega, by have := HR.out; go_num, rfl, H5⟩
          case measure => have := HR.out; simp [intOf]; omega
      · have hjn : j = len1 := by omega
        have hj50 : j ≤ 50 := by omega
        have HJ := Lib.hid (show j ≤ 50 ∧ t ≤ 50 from ⟨hj50, by have := HI.out.tj; omega⟩)
        have ht50 : t ≤ 50 := HJ.out.2
        have H5 := Lib.hid (show Chk (rowD A) w wr s a b c N Z Q (60 * 50 + 0) ∧ Lst wr 3 1 w.heap.size A t cc (ints10 (G.map (·.p))) Q s ∧ Inv N Z (G.drop 0) ∧ Z.u ≤ 250 + 3 * 0 ∧ t = G.length from ⟨HI.out.chk.more (by omega), HI.out.lst, HI.out.inv, by have := HI.out.u; omega, HI.out.tl⟩)
        clear HI hjn
        go_wp2_with fail
        go_loopw [13] (fun i wr => ∃ (y : Nat) (Z : St) (Q : Nat → Prop), y ≤ t ∧ i = .int .i64 (y : Int) ∧ Hid (Chk (rowD A) w wr s a b c N Z Q (60 * 50 + y) ∧ Lst wr 3 1 w.heap.size A t cc (ints10 (G.map (·.p))) Q s ∧ Inv N Z (G.drop y) ∧ Z.u ≤ 250 + 3 * y ∧ t = G.length)) (fun i _ => t - (intOf i).toNat)
        case atStart => exact ⟨0, Z, Q, by omega, rfl, H5⟩
        case round =>
          clear H5
          obtain ⟨y, Zy, Qy, hy, rfl, HI⟩ := hrel
          by_cases hly : y < t
          · have hyl : y < G.length := by have := HI.out.2.2.2.2; omega
            obtain ⟨g, hA, hc⟩ := HI.out.2.1.cell (j := y) (by simpa using hyl)
            rw [List.getElem_map] at hc
            have hinv := HI.out.2.2.1
            rw [List.drop_eq_getElem_cons hyl] at hinv
            obtain ⟨rp, hrp⟩ : ∃ rp, rp = G[y].p := ⟨_, rfl⟩
            obtain ⟨rn, hrn⟩ : ∃ rn, rn = G[y].n := ⟨_, rfl⟩
            have HV := Lib.hid (show Inv N Zy (⟨rp, rn⟩ :: G.drop (y + 1)) by rw [hrp, hrn]; exact hinv)
            rw [← hrp] at hc
            subst hA
            clear hinv hrp hrn
            go_wp2_with fail
            refine (cput_any HI.out.1 (by have := HJ.out; omega) (by have := HI.out.2.2.2.1; have := HJ.out; omega) rp rn HV.out).mono ?_
            rintro e w6 ⟨rfl, h6, k6⟩
            have H6 := Lib.hid (show Chk (rowD (some ⟨g, 0, none⟩)) w w6 s a b c N (Zy.put N rp rn) (Wid Qy wr w6) (60 * 50 + (y + 1)) ∧ Lst w6 3 1 w.heap.size (some ⟨g, 0, none⟩) t cc (ints10 (G.map (·.p))) (Wid Qy wr w6) s ∧ Inv N (Zy.put N rp rn) (G.drop (y + 1)) ∧ (Zy.put N rp rn).u ≤ 250 + 3 * (y + 1) ∧ t = G.length from ⟨h6, HI.out.2.1.call k6, HV.out.put.1, by show Zy.u + 3 ≤ _; have := HI.out.2.2.2.1; omega, HI.out.2.2.2.2⟩)
            clear h6 k6 hc
            go_wp2_with fail
            go_roundw
            case rel => exact ⟨y + 1, _, _, by omega, by go_num, H6⟩
            case measure => simp [intOf]; omega
          · have hyt : y = t := by omega
            have hinv := HI.out.2.2.1
            rw [List.drop_of_length_le (by have := HI.out.2.2.2.2; omega)] at hinv
            have HV := Lib.hid (show Inv N Zy [] ∧ Zy.u ≤ 400 from ⟨hinv, by have := HI.out.2.2.2.1; have := HJ.out; omega⟩)
            have HC := Lib.hid HI.out.1
            clear hinv HI hyt
            go_wp2_with fail
            clear hly
            refine (ctrim_any HC.out (by have := HJ.out; omega) HV.out.1.low).mono ?_
            rintro e w6 ⟨rfl, h6, _⟩
            have HT := Lib.hid (show Inv N (Zy.trim N) [] ∧ (Zy.trim N).l = [⟨0, (N : Int)⟩] ∧ M.all (Zy.trim N).K = [] ∧ (Zy.trim N).u ≤ 400 from ⟨HV.out.1.trim, HV.out.1.trim.all_free (by have := HN.out; omega) rfl, rfl, HV.out.2⟩)
            have H6 := Lib.hid h6
            clear h6 HC
            generalize Zy.trim N = Z6 at *
            generalize Wid Qy wr w6 = Q6 at *
            go_wp2_with fail
            refine (cruns_any H6.out).mono ?_
            rintro e w7 ⟨A7, t7, cc7, rfl, ht7, hR7, b7⟩
            rw [HT.out.2.1] at ht7 hR7
            obtain ⟨bl7, o7, rfl, hc7⟩ := hR7 (by simp)
            have c0 := (hc7 0 (by simp)).1
            have c1 := (hc7 0 (by simp)).2
            simp only [List.getElem_cons_zero, Nat.zero_mul, Nat.add_zero] at c0 c1
            simp only [List.length_cons, List.length_nil, Nat.zero_add] at ht7
            subst ht7
            have H7 := Lib.hid (H6.out.below b7)
            clear b7 hR7 hc7 H6
            go_wp2_with (go_quiet (fail))
            refine (ccached_any H7.out).mono ?_
            rintro e w8 ⟨g8, z8, rfl, hz, _, _, _, b8⟩
            rw [HT.out.2.2.1] at hz
            simp only [List.length_nil] at hz
            subst hz
            have H8 := Lib.hid (H7.out.below b8)
            clear b8 H7 c0 c1
            go_wp2_with fail
            refine (cget_any H8.out (by have := HJ.out; omega) (by have := HT.out.2.2.2; omega) HT.out.1 (N : Int) 1 1 (by have := HN.out; omega) (by have := HN.out; omega) (by omega) (by omega) (by omega)).mono ?_
            rintro e w9 ⟨rfl, h9, _⟩
            have H9 := Lib.hid h9.bel
            clear h9 H8
            by_cases h64 : 64 < N
            · have hg := all_get HT.out.1 h64 (by have := HN.out; omega)
              rw [hg.1, hg.2.1, hg.2.2.1]
              clear hg
              go_wp2_with fail
              go_ret
              exact ⟨rfl, H9.out⟩
            · rcases few_get HT.out.1 (by have := HN.out; omega) (by omega) with ⟨hE, hge⟩ | ⟨hE, hge⟩
              · rw [hE]
                clear hE
                generalize getN N Z6 (N : Int) = m at *
                generalize getP N Z6 (N : Int) = p at *
                go_wp2_with fail
                go_ret
                exact ⟨rfl, H9.out⟩
              · rw [hE]
                clear hE
                have HGE := Lib.hid hge
                clear hge
                generalize getN N Z6 (N : Int) = m at *
                generalize getP N Z6 (N : Int) = p at *
                have hN1 := HN.out.2.1
                go_wp2_with fail
                rw [HGE.out]
                go_ret
                exact ⟨rfl, H9.out⟩

/-! The row's step. -/
set_option maxRecDepth 100000 in
theorem lifted (os : Os) (started : os.Started) (H : Type) (enc : TypeId × Value → H) :
    ReturnsInHanded {} Try.checked os 4 .any (Rows.chunkAllSpec.pre6 enc Try.prog Try.f4 Rows.chunkAllRow.domain false) (Rows.chunkAllSpec.post enc Try.prog Try.f4 false true false false) := by
  refine returnsInHanded_of_change (C := Try.checked) own started (by kernel_rfl) Try.func4
    (ChangeSpec.witness6 (enc := enc) (C := Try.checked) false ⟨#[], #[.int .u8 0, .slice none 0 0], []⟩ 8 (by kernel_rfl) (by kernel_rfl) (by kernel_rfl) (by kernel_rfl)) ?_
  intro W base args ds gs before hval0 hW hcnd _
  have hval : ∀ (j : Nat) t v, Try.f4.params[j]? = some t → args[j]? = some v → Value.okWide Try.prog W .any base t v := hval0
  have hW' := hW
  obtain ⟨p, q, hA0, hV, rfl, hfz, hnd⟩ := hW
  have hA : DataW.TrodAll enc Try.prog W 0 (fun _ => true) true Try.f4.params.toList args.toList ds p := hA0
  rw [Try.params4] at hA hval
  obtain ⟨v0, vs0, d0, ds0, p0, q0, hargs, rfl, rfl, h0, r0⟩ := trodAll_cons hA
  obtain ⟨v1, vs1, d1, ds1, p1, q1, rfl, rfl, rfl, h1, r1⟩ := trodAll_cons r0
  obtain ⟨rfl, rfl, rfl⟩ := trodAll_nil r1
  obtain rfl : args = #[v0, v1] := by cases args; simp_all
  obtain ⟨rfl, rfl⟩ := trodVars_none hV
  obtain ⟨a0, rfl, rfl, rfl, w0⟩ := open_int Try.underlying5 (hval 0 5 v0 rfl rfl) h0
  obtain ⟨a1, len1, cap1, rfl⟩ := okWide_slice Try.underlying22 (hval 1 22 v1 rfl rfl)
  have k1 := h1
  have lt1 : ∀ x ∈ p1, x.block < W.heap.size := by obtain ⟨m, hm⟩ := k1; exact DataW.trod_lt m _ _ _ hm
  have w1 : IsActs W a1 len1 := by
    obtain ⟨fuel, hf⟩ := h1
    obtain ⟨A, l, c, hcs, hw⟩ := acts_open hf
    simp [Value.cells] at hcs
    obtain ⟨rfl, rfl, rfl⟩ := hcs
    exact hw
  clear hA0 hval0
  refine (walk a0 a1 len1 cap1 W w0 w1).mono fun e W' ⟨he, bel⟩ => ?_
  subst he
  exact ⟨_, rfl, _, _, _, [], _, [], hW', trodAll_mk1 (shut_bool Try.underlying4 _), (trodAll_cons_mk (shut_int Try.underlying5 w0) (trodAll_cons_mk (Below.trod laidOut (by kernel_rfl) (of_decide_eq_true (by kernel_rfl)) k1 bel lt1) trodAll_mk0)), rfl, bel.frame _, fun h => by cases h⟩

theorem over : Rows.chunkAllRow.holds Try.pinned (OpenSpec.ofChange Rows.chunkAllSpec) :=
  OpenClaim.holds_of_wide 4 Try.f4 rfl rfl rfl rfl rfl rfl rfl ⟨rfl, rfl, rfl, rfl, rfl⟩ rfl rfl rfl rfl rfl (by kernel_rfl) Try.func4 (by kernel_rfl)
    (of_decide_eq_true (by kernel_rfl)) (by unfold Func.isWrapper; first | (rw [if_pos (by decide +kernel)]; kernel_rfl) | (rw [if_neg (by decide +kernel)]; exact ⟨rfl, rfl⟩))
    (fun os started H enc _ => lifted os started H enc)

/-- The statement. -/
theorem proved : Rows.ChunkAllSaid := over
#print axioms proved
end Go.Proofs.Ytmboibipabkhaaa.chunkAll
