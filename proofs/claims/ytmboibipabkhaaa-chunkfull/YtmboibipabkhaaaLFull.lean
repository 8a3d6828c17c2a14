/-
  ChunkFull is true whatever the input: what is kept never stands in the way, and there is no room just if, trimmed, no run is long enough; no conditions.
-/
import Derived.Test.YtmboibipabkhaaaRows
import Derived.WalkKit
import Derived.ProofKit
import Derived.OpenShut
import Derived.ShutString
import Derived.ChangeOld
import Derived.Below
import Derived.Test.YtmboibipabkhaaaK11
namespace Go.Proofs.Ytmboibipabkhaaa.chunkFull
open Go.ChangeShapes Go.WideShapes Go.ChangeAt Go.RowKit
set_option linter.unusedVariables false

theorem own : ownKnob Try.prog.godebug = none := by kernel_rfl

/-! The walk. -/
set_option maxRecDepth 20000 in
set_option maxHeartbeats 8000000 in
theorem walk (a0 : Int) (a1 : Option Addr) (len1 cap1 : Nat) (a2 : Int) (w : World) (w0 : (Lit.int .u8 a0).wf = true) (w1 : IsActs w a1 len1) (w2 : (Lit.int .u8 a2).wf = true) :
    Calls Try.prog 5 #[.int .u8 a0, .slice a1 len1 cap1, .int .u8 a2] w fun e w' => e = .returned (.bool true) ∧ Below w.heap.size w w' := by
  obtain ⟨n0, hn0, rfl⟩ := u8_nat w0
  obtain ⟨hl63, L, hL, hActs⟩ := w1
  obtain ⟨n2, hn2, rfl⟩ := u8_nat w2
  clear w0 w2
  obtain ⟨N, hN⟩ : ∃ N : Nat, (N : Int) = min (max (n0 : Int) 1) 1048576 := ⟨max n0 1, by omega⟩
  have HN := Lib.hid (show (N : Int) = min (max (n0 : Int) 1) 1048576 ∧ 1 ≤ N ∧ N ≤ 255 by omega)
  have HA := Lib.hid (And.intro hL hActs)
  clear hN hActs hL
  go_enter Try.func5, Try.ntmps5
  go_wp2_with fail
  refine (awake10_any _).mono ?_
  rintro e w1 ⟨rfl, b1⟩
  have B1 := Lib.hid b1
  clear b1
  by_cases h50 : 50 < len1
  · go_wp2_with fail
    go_ret
    exact ⟨rfl, B1.out⟩
  · have d50 : decide (50 < (len1 : Int)) = false := by simp; omega
    go_wp2_with fail
    clear d50
    refine (cnew_any B1.out (n0 : Int) N HN.out.1).mono ?_
    rintro e w2 ⟨s, a, b, c, Q0, rfl, h2, _, _, _⟩
    have H2 := Lib.hid (show Chk (fun _ => False) w w2 s a b c N (St.new N) Q0 (60 * 0) ∧ Inv N (St.new N) [] ∧ (St.new N).u ≤ 5 * 0 from ⟨h2, Inv.new N (by have := HN.out; omega), by simp [St.new]⟩)
    clear h2
    go_wp2_with fail
    go_loopw [9] (fun i wr => ∃ (j : Nat) (Z : St) (Q : Nat → Prop) (G : List M.R), j ≤ len1 ∧ i = .int .i64 (j : Int) ∧ Hid (Chk (fun _ => False) w wr s a b c N Z Q (60 * j) ∧ Inv N Z G ∧ Z.u ≤ 5 * j)) (fun i _ => len1 - (intOf i).toNat)
    case atStart => exact ⟨0, _, _, [], by omega, rfl, H2⟩
    case round =>
      clear H2
      obtain ⟨j, Z, Q, G, hj, rfl, HI⟩ := hrel
      by_cases hlt : j < len1
      · have hjl : j < L.length := by have := HA.out.1; omega
        obtain ⟨bl, o, rfl, hc⟩ := HA.out.2 (by omega)
        have ha := hc j hjl
        obtain ⟨x, hx⟩ : ∃ x, x = L[j] := ⟨_, rfl⟩
        rw [← hx] at ha
        obtain ⟨d, p, kd, ow, ix⟩ := x
        have HACT := Lib.hid (Chk.act ha)
        have HR := Lib.hid (show ow < 18446744073709551616 ∧ ix < 256 ∧ j ≤ 50 from ⟨ha.or, ha.ir, by omega⟩)
        have e0 := (HACT.out wr HI.out.1.bel).c0
        simp only at e0
        clear hc hx ha
        rcases Nat.eq_zero_or_pos d with hd | hd
        · subst hd
          go_upto_region 11 with fail
          have HG := Lib.hid (HI.out.2.1.gt (by have := HN.out; omega) p kd ow HR.out.1)
          have f1 := (HACT.out wr HI.out.1.bel).c1
          have f2 := (HACT.out wr HI.out.1.bel).c2
          have f3 := (HACT.out wr HI.out.1.bel).c3
          simp only at f1 f2 f3
          clear e0
          refine wp_region_noPanic ?_
          refine wp_region_held_drew (S := fun W => W.cell? ⟨bl, o + j * 5 + 1, none⟩ = some (.int .i64 p) ∧ W.cell? ⟨bl, o + j * 5 + 2, none⟩ = some (.int .i64 kd) ∧ W.cell? ⟨bl, o + j * 5 + 3, none⟩ = some (.int .u64 (ow : Int))) (by kernel_rfl) (⟨f1, f2, f3⟩) (fun hHeld => ?_)
          refine wpAnyH_take (i := 0) (oi := ({ dst := some 45, op := Op.move (Operand.tmp 8), type := 24, pos := "law.go:203", after := #[], guard := none } : Oper)) (v := ?_) rfl (by kernel_rfl) (by kernel_rfl) (by kernel_rfl) (fun _ _ _ h => h) (Or.inl ⟨by rfl, ?_⟩) (by assumption) ?_
          rotate_left
          · (intro w hSw; (try dsimp only at hSw); go_simp) <;> with_reducible rfl
          (try simp only [Act.put, List.setIfInBounds_toArray, List.set_cons_zero, List.set_cons_succ])
          refine wpAnyH_take (i := 1) (oi := ({ dst := some 46, op := Op.move (Operand.tmp 1), type := 22, pos := "law.go:203", after := #[], guard := none } : Oper)) (v := ?_) rfl (by kernel_rfl) (by kernel_rfl) (by kernel_rfl) (fun _ _ _ h => h) (Or.inl ⟨by rfl, ?_⟩) (by assumption) ?_
          rotate_left
          · (intro w hSw; (try dsimp only at hSw); go_simp) <;> with_reducible rfl
          (try simp only [Act.put, List.setIfInBounds_toArray, List.set_cons_zero, List.set_cons_succ])
          refine wpAnyH_take (i := 2) (oi := ({ dst := some 47, op := Op.move (Operand.tmp 9), type := 3, pos := "law.go:203", after := #[], guard := none } : Oper)) (v := ?_) rfl (by kernel_rfl) (by kernel_rfl) (by kernel_rfl) (fun _ _ _ h => h) (Or.inl ⟨by rfl, ?_⟩) (by assumption) ?_
          rotate_left
          · (intro w hSw; (try dsimp only at hSw); go_simp) <;> with_reducible rfl
          (try simp only [Act.put, List.setIfInBounds_toArray, List.set_cons_zero, List.set_cons_succ])
          refine wpAnyH_take (i := 3) (oi := ({ dst := some 48, op := Op.indexAddr 22 (Operand.tmp 46) (Operand.tmp 47), type := 0, pos := "law.go:203", after := #[{ on := 1, ground := Ground.data }, { on := 2, ground := Ground.data }], guard := none } : Oper)) (v := ?_) rfl (by kernel_rfl) (by kernel_rfl) (by kernel_rfl) (fun _ _ _ h => h) (Or.inl ⟨by rfl, ?_⟩) (by assumption) ?_
          rotate_left
          · (intro w hSw; (try dsimp only at hSw); go_simp) <;> with_reducible rfl
          (try simp only [Act.put, List.setIfInBounds_toArray, List.set_cons_zero, List.set_cons_succ])
          refine wpAnyH_take (i := 4) (oi := ({ dst := some 49, op := Op.fieldAddr 32 (Operand.tmp 48) 1, type := 0, pos := "law.go:203", after := #[{ on := 3, ground := Ground.data }], guard := none } : Oper)) (v := ?_) rfl (by kernel_rfl) (by kernel_rfl) (by kernel_rfl) (fun _ _ _ h => h) (Or.inl ⟨by rfl, ?_⟩) (by assumption) ?_
          rotate_left
          · (intro w hSw; (try dsimp only at hSw); go_simp) <;> with_reducible rfl
          (try simp only [Act.put, List.setIfInBounds_toArray, List.set_cons_zero, List.set_cons_succ])
          refine wpAnyH_take (i := 5) (oi := ({ dst := some 50, op := Op.load 3 (Operand.tmp 49), type := 3, pos := "law.go:203", after := #[{ on := 4, ground := Ground.data }], guard := none } : Oper)) (v := ?_) rfl (by kernel_rfl) (by kernel_rfl) (by kernel_rfl) (fun _ _ _ h => h) (Or.inl ⟨by rfl, ?_⟩) (by assumption) ?_
          rotate_left
          · (intro w hSw; (try dsimp only at hSw); go_simp) <;> with_reducible rfl
          (try simp only [Act.put, List.setIfInBounds_toArray, List.set_cons_zero, List.set_cons_succ])
          refine wpAnyH_take (i := 6) (oi := ({ dst := some 51, op := Op.move (Operand.tmp 1), type := 22, pos := "law.go:203", after := #[], guard := none } : Oper)) (v := ?_) rfl (by kernel_rfl) (by kernel_rfl) (by kernel_rfl) (fun _ _ _ h => h) (Or.inl ⟨by rfl, ?_⟩) (by assumption) ?_
          rotate_left
          · (intro w hSw; (try dsimp only at hSw); go_simp) <;> with_reducible rfl
          (try simp only [Act.put, List.setIfInBounds_toArray, List.set_cons_zero, List.set_cons_succ])
          refine wpAnyH_take (i := 7) (oi := ({ dst := some 52, op := Op.move (Operand.tmp 9), type := 3, pos := "law.go:203", after := #[], guard := none } : Oper)) (v := ?_) rfl (by kernel_rfl) (by kernel_rfl) (by kernel_rfl) (fun _ _ _ h => h) (Or.inl ⟨by rfl, ?_⟩) (by assumption) ?_
          rotate_left
          · (intro w hSw; (try dsimp only at hSw); go_simp) <;> with_reducible rfl
          (try simp only [Act.put, List.setIfInBounds_toArray, List.set_cons_zero, List.set_cons_succ])
          refine wpAnyH_take (i := 8) (oi := ({ dst := some 53, op := Op.indexAddr 22 (Operand.tmp 51) (Operand.tmp 52), type := 0, pos := "law.go:203", after := #[{ on := 6, ground := Ground.data }, { on := 7, ground := Ground.data }], guard := none } : Oper)) (v := ?_) rfl (by kernel_rfl) (by kernel_rfl) (by kernel_rfl) (fun _ _ _ h => h) (Or.inl ⟨by rfl, ?_⟩) (by assumption) ?_
          rotate_left
          · (intro w hSw; (try dsimp only at hSw); go_simp) <;> with_reducible rfl
          (try simp only [Act.put, List.setIfInBounds_toArray, List.set_cons_zero, List.set_cons_succ])
          refine wpAnyH_take (i := 9) (oi := ({ dst := some 54, op := Op.fieldAddr 32 (Operand.tmp 53) 2, type := 0, pos := "law.go:203", after := #[{ on := 8, ground := Ground.data }], guard := none } : Oper)) (v := ?_) rfl (by kernel_rfl) (by kernel_rfl) (by kernel_rfl) (fun _ _ _ h => h) (Or.inl ⟨by rfl, ?_⟩) (by assumption) ?_
          rotate_left
          · (intro w hSw; (try dsimp only at hSw); go_simp) <;> with_reducible rfl
          (try simp only [Act.put, List.setIfInBounds_toArray, List.set_cons_zero, List.set_cons_succ])
          refine wpAnyH_take (i := 10) (oi := ({ dst := some 55, op := Op.load 3 (Operand.tmp 54), type := 3, pos := "law.go:203", after := #[{ on := 9, ground := Ground.data }], guard := none } : Oper)) (v := ?_) rfl (by kernel_rfl) (by kernel_rfl) (by kernel_rfl) (fun _ _ _ h => h) (Or.inl ⟨by rfl, ?_⟩) (by assumption) ?_
          rotate_left
          · (intro w hSw; (try dsimp only at hSw); go_simp) <;> with_reducible rfl
          (try simp only [Act.put, List.setIfInBounds_toArray, List.set_cons_zero, List.set_cons_succ])
          refine wpAnyH_take (i := 11) (oi := ({ dst := some 56, op := Op.move (Operand.tmp 1), type := 22, pos := "law.go:203", after := #[], guard := none } : Oper)) (v := ?_) rfl (by kernel_rfl) (by kernel_rfl) (by kernel_rfl) (fun _ _ _ h => h) (Or.inl ⟨by rfl, ?_⟩) (by assumption) ?_
          rotate_left
          · (intro w hSw; (try dsimp only at hSw); go_simp) <;> with_reducible rfl
          (try simp only [Act.put, List.setIfInBounds_toArray, List.set_cons_zero, List.set_cons_succ])
          refine wpAnyH_take (i := 12) (oi := ({ dst := some 57, op := Op.move (Operand.tmp 9), type := 3, pos := "law.go:203", after := #[], guard := none } : Oper)) (v := ?_) rfl (by kernel_rfl) (by kernel_rfl) (by kernel_rfl) (fun _ _ _ h => h) (Or.inl ⟨by rfl, ?_⟩) (by assumption) ?_
          rotate_left
          · (intro w hSw; (try dsimp only at hSw); go_simp) <;> with_reducible rfl
          (try simp only [Act.put, List.setIfInBounds_toArray, List.set_cons_zero, List.set_cons_succ])
          refine wpAnyH_take (i := 13) (oi := ({ dst := some 58, op := Op.indexAddr 22 (Operand.tmp 56) (Operand.tmp 57), type := 0, pos := "law.go:203", after := #[{ on := 11, ground := Ground.data }, { on := 12, ground := Ground.data }], guard := none } : Oper)) (v := ?_) rfl (by kernel_rfl) (by kernel_rfl) (by kernel_rfl) (fun _ _ _ h => h) (Or.inl ⟨by rfl, ?_⟩) (by assumption) ?_
          rotate_left
          · (intro w hSw; (try dsimp only at hSw); go_simp) <;> with_reducible rfl
          (try simp only [Act.put, List.setIfInBounds_toArray, List.set_cons_zero, List.set_cons_succ])
          refine wpAnyH_take (i := 14) (oi := ({ dst := some 59, op := Op.fieldAddr 32 (Operand.tmp 58) 3, type := 0, pos := "law.go:203", after := #[{ on := 13, ground := Ground.data }], guard := none } : Oper)) (v := ?_) rfl (by kernel_rfl) (by kernel_rfl) (by kernel_rfl) (fun _ _ _ h => h) (Or.inl ⟨by rfl, ?_⟩) (by assumption) ?_
          rotate_left
          · (intro w hSw; (try dsimp only at hSw); go_simp) <;> with_reducible rfl
          (try simp only [Act.put, List.setIfInBounds_toArray, List.set_cons_zero, List.set_cons_succ])
          refine wpAnyH_take (i := 15) (oi := ({ dst := some 60, op := Op.load 30 (Operand.tmp 59), type := 30, pos := "law.go:203", after := #[{ on := 14, ground := Ground.data }], guard := none } : Oper)) (v := ?_) rfl (by kernel_rfl) (by kernel_rfl) (by kernel_rfl) (fun _ _ _ h => h) (Or.inl ⟨by rfl, ?_⟩) (by assumption) ?_
          rotate_left
          · (intro w hSw; (try dsimp only at hSw); go_simp) <;> with_reducible rfl
          (try simp only [Act.put, List.setIfInBounds_toArray, List.set_cons_zero, List.set_cons_succ])
          refine wpAnyH_ready (rs := [16]) (by kernel_rfl) (by simp) ?_
          refine AllReadyH.cons (o := ({ dst := some 61, op := Op.call { callee := Callee.value (Operand.func 13), args := #[Operand.tmp 45, Operand.tmp 50, Operand.tmp 55, Operand.tmp 60], argTypes := #[24, 3, 3, 30] }, type := 34, pos := "law.go:203", after := #[{ on := 0, ground := Ground.data }, { on := 5, ground := Ground.data }, { on := 10, ground := Ground.data }, { on := 15, ground := Ground.data }], guard := none } : Oper)) rfl (fun K hK => ?_) ?_
          · go_simp
            refine (cgetA_any HI.out.1.drew (by have := HR.out; omega) (by have := HI.out.2.2; have := HR.out; omega) HI.out.2.1 p kd ow HR.out.1).mono ?_
            rintro e w4 ⟨rfl, h4, _⟩
            have H4 := Lib.hid h4
            have HB4 := Lib.hid h4.bel
            clear h4
            go_wp2_with fail
            refine hK.out _ _ ?_ (fun hHeld => ?_)
            · exact ⟨(HACT.out w4 HB4.out).c1, (HACT.out w4 HB4.out).c2, (HACT.out w4 HB4.out).c3⟩
            clear hK K
            (try simp only [Act.put, List.setIfInBounds_toArray, List.set_cons_zero, List.set_cons_succ])
            refine wpAnyH_take (i := 17) (oi := ({ dst := some 44, op := Op.move (Operand.tmp 61), type := 34, pos := "law.go:203", after := #[{ on := 16, ground := Ground.data }], guard := none } : Oper)) (v := ?_) rfl (by kernel_rfl) (by kernel_rfl) (by kernel_rfl) (fun _ _ _ h => h) (Or.inl ⟨by rfl, ?_⟩) (by assumption) ?_
            rotate_left
            · (intro w hSw; (try dsimp only at hSw); go_simp) <;> with_reducible rfl
            (try simp only [Act.put, List.setIfInBounds_toArray, List.set_cons_zero, List.set_cons_succ])
            refine wpAnyH_take (i := 18) (oi := ({ dst := some 62, op := Op.extract (Operand.tmp 44) 0, type := 3, pos := "law.go:203", after := #[{ on := 17, ground := Ground.data }], guard := none } : Oper)) (v := ?_) rfl (by kernel_rfl) (by kernel_rfl) (by kernel_rfl) (fun _ _ _ h => h) (Or.inl ⟨by rfl, ?_⟩) (by assumption) ?_
            rotate_left
            · (intro w hSw; (try dsimp only at hSw); go_simp) <;> with_reducible rfl
            (try simp only [Act.put, List.setIfInBounds_toArray, List.set_cons_zero, List.set_cons_succ])
            refine wpAnyH_take (i := 19) (oi := ({ dst := some 63, op := Op.extract (Operand.tmp 44) 1, type := 3, pos := "law.go:203", after := #[{ on := 17, ground := Ground.data }, { on := 21, ground := Ground.gcOnly Departure.lateStores }], guard := none } : Oper)) (v := ?_) rfl (by kernel_rfl) (by kernel_rfl) (by kernel_rfl) (fun _ _ _ h => h) (Or.inl ⟨by rfl, ?_⟩) (by assumption) ?_
            rotate_left
            · (intro w hSw; (try dsimp only at hSw); go_simp) <;> with_reducible rfl
            (try simp only [Act.put, List.setIfInBounds_toArray, List.set_cons_zero, List.set_cons_succ])
            refine wpAnyH_take (i := 20) (oi := ({ dst := some 64, op := Op.extract (Operand.tmp 44) 2, type := 33, pos := "law.go:203", after := #[{ on := 17, ground := Ground.data }, { on := 22, ground := Ground.gcOnly Departure.lateStores }], guard := none } : Oper)) (v := ?_) rfl (by kernel_rfl) (by kernel_rfl) (by kernel_rfl) (fun _ _ _ h => h) (Or.inl ⟨by rfl, ?_⟩) (by assumption) ?_
            rotate_left
            · (intro w hSw; (try dsimp only at hSw); go_simp) <;> with_reducible rfl
            (try simp only [Act.put, List.setIfInBounds_toArray, List.set_cons_zero, List.set_cons_succ])
            refine wpAnyH_take (i := 21) (oi := ({ dst := some 10, op := Op.assign (Operand.tmp 62), type := 3, pos := "law.go:203", after := #[{ on := 18, ground := Ground.data }, { on := 16, ground := Ground.chain }, { on := 0, ground := Ground.phase }, { on := 1, ground := Ground.phase }, { on := 2, ground := Ground.phase }, { on := 3, ground := Ground.phase }, { on := 4, ground := Ground.phase }, { on := 5, ground := Ground.phase }, { on := 6, ground := Ground.phase }, { on := 7, ground := Ground.phase }, { on := 8, ground := Ground.phase }, { on := 9, ground := Ground.phase }, { on := 10, ground := Ground.phase }, { on := 11, ground := Ground.phase }, { on := 12, ground := Ground.phase }, { on := 13, ground := Ground.phase }, { on := 14, ground := Ground.phase }, { on := 15, ground := Ground.phase }, { on := 16, ground := Ground.phase }, { on := 17, ground := Ground.phase }, { on := 18, ground := Ground.phase }, { on := 19, ground := Ground.textOnly Departure.lateStores }, { on := 20, ground := Ground.textOnly Departure.lateStores }], guard := none } : Oper)) (v := ?_) rfl (by kernel_rfl) (by kernel_rfl) (by kernel_rfl) (fun _ _ _ h => h) (Or.inl ⟨by rfl, ?_⟩) (by assumption) ?_
            rotate_left
            · (intro w hSw; (try dsimp only at hSw); go_simp) <;> with_reducible rfl
            (try simp only [Act.put, List.setIfInBounds_toArray, List.set_cons_zero, List.set_cons_succ])
            refine wpAnyH_take (i := 22) (oi := ({ dst := some 11, op := Op.assign (Operand.tmp 63), type := 3, pos := "law.go:203", after := #[{ on := 19, ground := Ground.data }, { on := 21, ground := Ground.chain }, { on := 0, ground := Ground.phase }, { on := 1, ground := Ground.phase }, { on := 2, ground := Ground.phase }, { on := 3, ground := Ground.phase }, { on := 4, ground := Ground.phase }, { on := 5, ground := Ground.phase }, { on := 6, ground := Ground.phase }, { on := 7, ground := Ground.phase }, { on := 8, ground := Ground.phase }, { on := 9, ground := Ground.phase }, { on := 10, ground := Ground.phase }, { on := 11, ground := Ground.phase }, { on := 12, ground := Ground.phase }, { on := 13, ground := Ground.phase }, { on := 14, ground := Ground.phase }, { on := 15, ground := Ground.phase }, { on := 16, ground := Ground.phase }, { on := 17, ground := Ground.phase }, { on := 18, ground := Ground.phase }, { on := 19, ground := Ground.phase }, { on := 20, ground := Ground.textOnly Departure.lateStores }, { on := 21, ground := Ground.phase }], guard := none } : Oper)) (v := ?_) rfl (by kernel_rfl) (by kernel_rfl) (by kernel_rfl) (fun _ _ _ h => h) (Or.inl ⟨by rfl, ?_⟩) (by assumption) ?_
            rotate_left
            · (intro w hSw; (try dsimp only at hSw); go_simp) <;> with_reducible rfl
            (try simp only [Act.put, List.setIfInBounds_toArray, List.set_cons_zero, List.set_cons_succ])
            refine wpAnyH_take (i := 23) (oi := ({ dst := some 12, op := Op.assign (Operand.tmp 64), type := 33, pos := "law.go:203", after := #[{ on := 20, ground := Ground.data }, { on := 22, ground := Ground.chain }, { on := 0, ground := Ground.phase }, { on := 1, ground := Ground.phase }, { on := 2, ground := Ground.phase }, { on := 3, ground := Ground.phase }, { on := 4, ground := Ground.phase }, { on := 5, ground := Ground.phase }, { on := 6, ground := Ground.phase }, { on := 7, ground := Ground.phase }, { on := 8, ground := Ground.phase }, { on := 9, ground := Ground.phase }, { on := 10, ground := Ground.phase }, { on := 11, ground := Ground.phase }, { on := 12, ground := Ground.phase }, { on := 13, ground := Ground.phase }, { on := 14, ground := Ground.phase }, { on := 15, ground := Ground.phase }, { on := 16, ground := Ground.phase }, { on := 17, ground := Ground.phase }, { on := 18, ground := Ground.phase }, { on := 19, ground := Ground.phase }, { on := 20, ground := Ground.phase }, { on := 21, ground := Ground.phase }, { on := 22, ground := Ground.phase }], guard := none } : Oper)) (v := ?_) rfl (by kernel_rfl) (by kernel_rfl) (by kernel_rfl) (fun _ _ _ h => h) (Or.inl ⟨by rfl, ?_⟩) (by assumption) ?_
            rotate_left
            · (intro w hSw; (try dsimp only at hSw); go_simp) <;> with_reducible rfl
            (try simp only [Act.put, List.setIfInBounds_toArray, List.set_cons_zero, List.set_cons_succ])
            refine wpAnyH_done (by kernel_rfl) ?_ _
            refine NoPanic.normal ?_
            have g4 := (HACT.out w4 HB4.out).c4
            simp only at g4
            generalize Wid Q wr.drew w4 = Q4 at *
            rcases HG.out with ⟨hE, hI, _, _, _, hu⟩ | ⟨hE, _, _, hI, hu⟩
            · have HI4 := Lib.hid (And.intro hI hu)
              rw [hE]
              clear hI hE hu
              obtain ⟨y, hy⟩ : ∃ y, y = gtP N Z p kd := ⟨_, rfl⟩
              rw [← hy] at HI4 ⊢
              clear hy
              rcases (by omega : (ix : Int) % 2 = 0 ∨ (ix : Int) % 2 = 1) with h0 | h0
              · go_wp2_with fail
                refine (cput_any H4.out (by have := HR.out; omega) (by have := HI4.out.2; have := HI.out.2.2; have := HR.out; omega) y _ HI4.out.1).mono ?_
                rintro e w5 ⟨rfl, h5, _⟩
                have H5 := Lib.hid (show Chk (fun _ => False) w w5 s a b c N ((Z.gt N p kd ow).put N y (gtN N Z p kd)) (Wid Q4 w4 w5) (60 * (j + 1)) ∧ Inv N ((Z.gt N p kd ow).put N y (gtN N Z p kd)) G ∧ ((Z.gt N p kd ow).put N y (gtN N Z p kd)).u ≤ 5 * (j + 1) from ⟨h5.more (by omega), HI4.out.1.put.1, by show (Z.gt N p kd ow).u + 3 ≤ _; have := HI4.out.2; have := HI.out.2.2; omega⟩)
                clear h5
                go_wp2_with fail
                go_roundw
                case rel => exact ⟨j + 1, _, _, G, by omega, by have := HR.out; go_num, H5⟩
                case measure => have := HR.out; simp [intOf]; omega
              · have H5 := Lib.hid (show Chk (fun _ => False) w w4 s a b c N (Z.gt N p kd ow) Q4 (60 * (j + 1)) ∧ Inv N (Z.gt N p kd ow) (⟨y, gtN N Z p kd⟩ :: G) ∧ (Z.gt N p kd ow).u ≤ 5 * (j + 1) from ⟨H4.out.more (by omega), HI4.out.1, by have := HI4.out.2; have := HI.out.2.2; omega⟩)
                go_wp2_with fail
                go_roundw
                case rel => exact ⟨j + 1, _, _, _, by omega, by have := HR.out; go_num, H5⟩
                case measure => have := HR.out; simp [intOf]; omega
            · have H5 := Lib.hid (show Chk (fun _ => False) w w4 s a b c N (Z.gt N p kd ow) Q4 (60 * (j + 1)) ∧ Inv N (Z.gt N p kd ow) G ∧ (Z.gt N p kd ow).u ≤ 5 * (j + 1) from ⟨H4.out.more (by omega), hI, by have := HI.out.2.2; omega⟩)
              clear hI hu
              obtain ⟨y, hy⟩ : ∃ y, y = gtE N Z p kd := ⟨_, rfl⟩
              rw [← hy] at hE ⊢
              have t0 : (y == 0) = false := by simp; omega
              clear hy hE
              go_wp2_with fail
              go_roundw
              case rel => exact ⟨j + 1, _, _, _, by omega, by have := HR.out; go_num, H5⟩
              case measure => have := HR.out; simp [intOf]; omega
          exact AllReadyH.nil
        · have t0 : ((d : Int) == 0) = false := by simp; omega
          have H5 := Lib.hid (show Chk (fun _ => False) w wr s a b c N Z Q (60 * (j + 1)) ∧ Inv N Z G ∧ Z.u ≤ 5 * (j + 1) from ⟨HI.out.1.more (by omega), HI.out.2.1, by have := HI.out.2.2; omega⟩)
          go_wp2_with fail
          go_roundw
          case rel => exact ⟨j + 1, _, _, G, by omega, by have := HR.out; go_num, H5⟩
          case measure => have := HR.out; simp [intOf]; omega
      · have hjn : j = len1 := by omega
        have hj50 : j ≤ 50 := by omega
        have HJ := Lib.hid hj50
        have HW := Lib.hid (show 1 ≤ (n2 : Int) + 1 ∧ (n2 : Int) + 1 ≤ 256 by omega)
        obtain ⟨n, hn⟩ : ∃ n : Int, n = (n2 : Int) + 1 := ⟨_, rfl⟩
        have HWN := Lib.hid (show 1 ≤ n ∧ n ≤ 256 by omega)
        go_upto_region 15 with fail
        rw [← hn]
        clear hn
        go_wp2_with fail
        refine (cget_any HI.out.1 (by have := HJ.out; omega) (by have := HI.out.2.2; have := HJ.out; omega) HI.out.2.1 n 0 0 (by have := HWN.out; omega) (by have := HWN.out; omega) (by omega) (by omega) (by omega)).mono ?_
        rintro e w4 ⟨rfl, h4, _⟩
        have H4 := Lib.hid h4
        clear h4
        by_cases he : (getF N Z n).e = 0
        · have hg := (HI.out.2.1.get_ok (by have := HN.out; omega) (pages := n) (kind := 0) (o := 0) (by have := HWN.out; omega) (by have := HWN.out; omega) (by omega) (by omega) (by omega) he).2.2.1
          rw [he]
          clear he
          generalize getN N Z n = m at *
          go_wp2_with fail
          go_ret
          exact ⟨rfl, H4.out.bel⟩
        · have hg := HI.out.2.1.get_no (pages := n) (kind := 0) (o := 0) (by have := HWN.out; omega) (by have := HWN.out; omega) he
          obtain ⟨Z4, hZ4⟩ : ∃ Z4, Z4 = Z.get N n 0 0 := ⟨_, rfl⟩
          rw [← hZ4] at hg H4
          rw [hg.1, hg.2.1, hg.2.2.1]
          have HG := Lib.hid hg.2.2.2
          clear hg he hZ4
          generalize Wid Q wr w4 = Q4 at *
          go_wp2_with fail
          refine (cfree_any H4.out).mono ?_
          rintro e w5 ⟨rfl, b5⟩
          have H5 := Lib.hid (H4.out.below b5)
          clear b5 H4
          go_wp2_with fail
          refine (ctrim_any H5.out (by have := HJ.out; omega) HG.out.1.low).mono ?_
          rintro e w6 ⟨rfl, h6, _⟩
          have H6 := Lib.hid h6
          clear h6 H5
          go_wp2_with fail
          refine (cfree_any H6.out).mono ?_
          rintro e w7 ⟨rfl, b7⟩
          have H7 := Lib.hid (H6.out.below b7)
          rw [trim_none N Z4 HG.out.2.2.2.1]
          clear b7 H6
          go_wp2_with fail
          refine (cruns_any H7.out).mono ?_
          rintro e w8 ⟨A, t, cc, rfl, ht, hR, b8⟩
          rw [trim_none N Z4 HG.out.2.2.2.1] at ht hR
          have hok := HG.out.1.pt.ok
          have hlen := M.len_le hok (by omega)
          have HRR := Lib.hid (show Runs w8 A Z4.l ∧ t = Z4.l.length ∧ Below w.heap.size w w8 from ⟨hR, ht, below_call H7.out.bel b8⟩)
          have HFR := Lib.hid (full_run (P := N) (Z := Z4) (n := n) (by have := HWN.out; omega) HG.out.2.2.2.2)
          have HT := Lib.hid (show t ≤ 1000000 by have := HN.out; omega)
          generalize M.total Z4.l = T at *
          generalize (Z4.l.length : Int) = U at *
          clear ht hR b8 H7 hok hlen
          go_wp2_with fail
          go_loop [22] (fun i => ∃ y : Nat, y ≤ t ∧ i = .int .i64 (y : Int)) (fun i => t - (intOf i).toNat)
          case atStart => exact ⟨0, by omega, rfl⟩
          case round =>
            obtain ⟨y, hy, rfl⟩ := hrel
            by_cases hlty : y < t
            · have hyl : y < Z4.l.length := by have := HRR.out.2.1; omega
              obtain ⟨b2, o2, rfl, hc⟩ := HRR.out.1 (by omega)
              have c1 := (hc y hyl).2
              have hf := HFR.out _ (List.getElem_mem hyl)
              have HTT := Lib.hid (show y ≤ 1000000 by have := HT.out; omega)
              generalize Z4.l[y].n = q at *
              clear hc
              have hwn := HWN.out
              have hy6 : y ≤ 1000000 := HTT.out
              by_cases h64 : 64 < n
              · have hq : ¬ n ≤ q := by have := hf.1 h64; omega
                have h64' : ¬ n ≤ 64 := by omega
                clear hf
                go_wp2_with (go_quiet (fail))
                go_round
                case rel => exact ⟨y + 1, by omega, by have := HTT.out; go_num⟩
                case measure => have := HTT.out; simp [intOf]; omega
              · have h64' : n ≤ 64 := by omega
                have hq : ¬ 2 * n - 1 ≤ q := by have := hf.2 h64'; omega
                clear hf
                go_wp2_with (go_quiet (fail))
                go_round
                case rel => exact ⟨y + 1, by omega, by have := HTT.out; go_num⟩
                case measure => have := HTT.out; simp [intOf]; omega
            · have hyt : y = t := by omega
              clear hlty
              go_wp2_with fail
              go_ret
              exact ⟨rfl, HRR.out.2.2⟩

/-! The row's step. -/
set_option maxRecDepth 100000 in
theorem lifted (os : Os) (started : os.Started) (H : Type) (enc : TypeId × Value → H) :
    ReturnsInHanded {} Try.checked os 5 .any (Rows.chunkFullSpec.pre6 enc Try.prog Try.f5 Rows.chunkFullRow.domain false) (Rows.chunkFullSpec.post enc Try.prog Try.f5 false true false false) := by
  refine returnsInHanded_of_change (C := Try.checked) own started (by kernel_rfl) Try.func5
    (ChangeSpec.witness6 (enc := enc) (C := Try.checked) false ⟨#[], #[.int .u8 0, .slice none 0 0, .int .u8 0], []⟩ 8 (by kernel_rfl) (by kernel_rfl) (by kernel_rfl) (by kernel_rfl)) ?_
  intro W base args ds gs before hval0 hW hcnd _
  have hval : ∀ (j : Nat) t v, Try.f5.params[j]? = some t → args[j]? = some v → Value.okWide Try.prog W .any base t v := hval0
  have hW' := hW
  obtain ⟨p, q, hA0, hV, rfl, hfz, hnd⟩ := hW
  have hA : DataW.TrodAll enc Try.prog W 0 (fun _ => true) true Try.f5.params.toList args.toList ds p := hA0
  rw [Try.params5] at hA hval
  obtain ⟨v0, vs0, d0, ds0, p0, q0, hargs, rfl, rfl, h0, r0⟩ := trodAll_cons hA
  obtain ⟨v1, vs1, d1, ds1, p1, q1, rfl, rfl, rfl, h1, r1⟩ := trodAll_cons r0
  obtain ⟨v2, vs2, d2, ds2, p2, q2, rfl, rfl, rfl, h2, r2⟩ := trodAll_cons r1
  obtain ⟨rfl, rfl, rfl⟩ := trodAll_nil r2
  obtain rfl : args = #[v0, v1, v2] := by cases args; simp_all
  obtain ⟨rfl, rfl⟩ := trodVars_none hV
  obtain ⟨a0, rfl, rfl, rfl, w0⟩ := open_int Try.underlying5 (hval 0 5 v0 rfl rfl) h0
  obtain ⟨a1, len1, cap1, rfl⟩ := okWide_slice Try.underlying22 (hval 1 22 v1 rfl rfl)
  have k1 := h1
  have lt1 : ∀ x ∈ p1, x.block < W.heap.size := by obtain ⟨m, hm⟩ := k1; exact DataW.trod_lt m _ _ _ hm
  have w1 : IsActs W a1 len1 := by
    obtain ⟨fuel, hf⟩ := h1
    obtain ⟨A, l, c, hcs, hw⟩ := acts_open hf
    simp [Value.cells] at hcs
    obtain ⟨rfl, rfl, rfl⟩ := hcs
    exact hw
  obtain ⟨a2, rfl, rfl, rfl, w2⟩ := open_int Try.underlying5 (hval 2 5 v2 rfl rfl) h2
  clear hA0 hval0
  refine (walk a0 a1 len1 cap1 a2 W w0 w1 w2).mono fun e W' ⟨he, bel⟩ => ?_
  subst he
  exact ⟨_, rfl, _, _, _, [], _, [], hW', trodAll_mk1 (shut_bool Try.underlying4 _), (trodAll_cons_mk (shut_int Try.underlying5 w0) (trodAll_cons_mk (Below.trod laidOut (by kernel_rfl) (of_decide_eq_true (by kernel_rfl)) k1 bel lt1) (trodAll_cons_mk (shut_int Try.underlying5 w2) trodAll_mk0))), rfl, bel.frame _, fun h => by cases h⟩

theorem over : Rows.chunkFullRow.holds Try.pinned (OpenSpec.ofChange Rows.chunkFullSpec) :=
  OpenClaim.holds_of_wide 5 Try.f5 rfl rfl rfl rfl rfl rfl rfl ⟨rfl, rfl, rfl, rfl, rfl⟩ rfl rfl rfl rfl rfl (by kernel_rfl) Try.func5 (by kernel_rfl)
    (of_decide_eq_true (by kernel_rfl)) (by unfold Func.isWrapper; first | (rw [if_pos (by decide +kernel)]; kernel_rfl) | (rw [if_neg (by decide +kernel)]; exact ⟨rfl, rfl⟩))
    (fun os started H enc _ => lifted os started H enc)

/-- The statement. -/
theorem proved : Rows.ChunkFullSaid := over
#print axioms proved
end Go.Proofs.Ytmboibipabkhaaa.chunkFull
