/-
  CacheFills is true whatever the input: full of all classes a cache keeps four of each, in the order in which they were pushed, and popped one by one it is empty; no conditions.
-/
import Derived.Test.YteiiiapjloincaaRows
import Derived.WalkKit
import Derived.ProofKit
import Derived.OpenShut
import Derived.ShutString
import Derived.ChangeOld
import Derived.Below
import Derived.Test.YteiiiapjloincaaArg9
import Derived.Test.YteiiiapjloincaaF9
namespace Go.Proofs.Yteiiiapjloincaa.cacheFills
open Go.ChangeShapes Go.WideShapes Go.ChangeAt Go.RowKit
set_option linter.unusedVariables false

theorem own : ownKnob Try.prog.godebug = none := by kernel_rfl

/-! The walk. -/
set_option maxRecDepth 20000 in
set_option maxHeartbeats 8000000 in
theorem walk (a0 : Int) (a1 : Int) (w : World) (w0 : (Lit.int .u16 a0).wf = true) (w1 : (Lit.int .u8 a1).wf = true) :
    Calls Try.prog 6 #[.int .u16 a0, .int .u8 a1] w fun e w' => e = .returned (.bool true) ∧ Below w.heap.size w w' := by
  obtain ⟨n0, hn0, rfl⟩ := u16_nat9 w0
  obtain ⟨n1, hn1, rfl⟩ := u8_nat w1
  clear w0 w1
  go_enter Try.func6, Try.ntmps6
  go_wp2_with fail
  refine (awake_any _).mono ?_
  rintro e w1 ⟨rfl, b1⟩
  have B1 := Lib.hid b1
  clear b1
  go_wp2_with fail
  refine (k_new B1.out).mono ?_
  rintro e w2 ⟨g, rfl, k2, _, _⟩
  rw [M.fill_start (n0 : Int)] at k2
  have K2 := Lib.hid k2
  clear k2
  go_wp2_with fail
  go_loopw [8, 9] (fun i _ wr => ∃ m : Nat, m ≤ 5 ∧ i = .int .i64 (m : Int) ∧ Kp w wr g (M.cntF n0 (M.fillC m 0))) (fun i _ _ => 5 - (intOf i).toNat)
  case atStart => exact ⟨0, by omega, rfl, K2.out⟩
  case round =>
    obtain ⟨m, hm, rfl, hk⟩ := hrel
    have HK := Lib.hid hk
    clear hk K2
    by_cases hlt : m < 5
    · have d5 : decide ((m : Int) < 5) = true := by simp; omega
      go_wp2_with fail
      rename_i wo
      go_loopw [9] (fun i wr => ∃ k : Nat, k ≤ 7 ∧ i = .int .i64 (k : Int) ∧ Kp w wr g (M.cntF n0 (M.fillC m k))) (fun i _ => 7 - (intOf i).toNat)
      case atStart => exact ⟨0, by omega, rfl, HK.out⟩
      case round =>
        obtain ⟨k, hk7, rfl, hkk⟩ := hrel
        have HKK := Lib.hid hkk
        clear hkk HK
        by_cases hlk : k < 7
        · have st := M.fill_step (n := (n0 : Int)) (by omega) m k hlk
          obtain ⟨x, hx⟩ : ∃ x : Int, (n0 : Int) + 10 * (k : Int) + (m : Int) = x := ⟨_, rfl⟩
          rw [hx] at st
          have ST := Lib.hid st
          have hxw : (n0 : Int) + 10 * (k : Int) + (m : Int) = x := hx
          clear st
          obtain ⟨b, hb⟩ : ∃ b, b = decide (m < 4) := ⟨_, rfl⟩
          have HB := Lib.hid hb
          clear hb hx
          go_wp2_with fail
          refine (k_push HKK.out k x).mono ?_
          rintro e w4 ⟨rfl, k4, _⟩
          rw [ST.out.1, ← HB.out]
          rw [ST.out.2] at k4
          have K4 := Lib.hid k4
          clear k4 hxw
          cases b with
          | true =>
            have d4 : decide ((m : Int) < 4) = true := by have := HB.out; simp at this; simp; omega
            go_wp2_with fail
            go_roundw
            case rel => exact ⟨k + 1, by omega, by go_num, K4.out⟩
            case measure => simp [intOf]; omega
          | false =>
            have d4 : decide ((m : Int) < 4) = false := by have := HB.out; simp at this; simp; omega
            go_wp2_with fail
            go_roundw
            case rel => exact ⟨k + 1, by omega, by go_num, K4.out⟩
            case measure => simp [intOf]; omega
        · have e7 : k = 7 := by omega
          subst e7
          have KN := Lib.hid HKK.out
          rw [M.fill_next] at KN
          go_wp2_with fail
          go_roundw
          case rel => exact ⟨m + 1, by omega, by go_num, KN.out⟩
          case measure => simp [intOf]; omega
    · have e5 : m = 5 := by omega
      subst e5
      have KF := HK.out
      rw [M.fill_end] at KF
      have HF := Lib.hid KF
      clear KF HK hlt hm
      go_wp2_with fail
      refine (k_all HF.out).mono ?_
      rintro e w5 ⟨ga, z, rfl, hz, hz28, hr, hga, hb5⟩
      rw [M.full_len] at hz
      subst hz
      have K5 := Lib.hid (HF.out.below hb5)
      have R5 := Lib.hid hr
      clear hr hz28 hb5 hga HF
      go_wp2_with fail
      refine (k_pages K5.out).mono ?_
      rintro e w6 ⟨rfl, rfl⟩
      rw [M.full_sum]
      go_wp2_with fail
      go_loopw [11] (fun i wr => ∃ m : Nat, m ≤ 28 ∧ i = .int .i64 (m : Int) ∧ Kp w wr g (M.full n0) ∧ Runs wr (some ⟨ga, 0, none⟩) (M.all (M.full n0))) (fun i _ => 28 - (intOf i).toNat)
      case atStart => exact ⟨0, by omega, rfl, K5.out, R5.out⟩
      case round =>
        obtain ⟨m, hm28, rfl, hk6, hr6⟩ := hrel
        clear K5 R5
        have K5 := Lib.hid hk6
        have R5 := Lib.hid hr6
        clear hk6 hr6
        by_cases hlt : m < 28
        · obtain ⟨bl, o, e, hcc⟩ := R5.out (by rw [M.full_len]; omega)
          injection e with e
          injection e with e1 e2
          subst e1 e2
          have hml : m < (M.all (M.full (n0 : Int))).length := by rw [M.full_len]; exact hlt
          have el := M.full_at (n0 : Int) m hlt
          rw [List.getElem?_eq_getElem hml] at el
          injection el with el
          have c0 := (hcc m hml).1
          have c1 := (hcc m hml).2
          rw [el] at c0 c1
          simp only [Nat.zero_add] at c0 c1
          obtain ⟨a, ha⟩ : ∃ a : Int, (m : Int) / 4 = a := ⟨_, rfl⟩
          obtain ⟨d, hd⟩ : ∃ d : Int, (m : Int) % 4 = d := ⟨_, rfl⟩
          have ea : ((m / 4 : Nat) : Int) = a := by omega
          have ed : ((m % 4 : Nat) : Int) = d := by omega
          rw [ea, ed] at c0
          rw [ea] at c1
          obtain ⟨b, hb⟩ : ∃ b : Int, 10 * a = b := ⟨_, rfl⟩
          obtain ⟨c, hc⟩ : ∃ c : Int, (n0 : Int) + b = c := ⟨_, rfl⟩
          obtain ⟨p, hp⟩ : ∃ p : Int, c + d = p := ⟨_, rfl⟩
          obtain ⟨q, hq⟩ : ∃ q : Int, M.pg a = q := ⟨_, rfl⟩
          rw [hb, hc, hp] at c0
          rw [hq] at c1
          have wa : IntKind.i64.wrap a = a := by rw [IntKind.wrap_i64]; omega
          have td : (m : Int).tmod 4 = d := by rw [Int.tmod_eq_emod_of_nonneg (by omega)]; exact hd
          have wb : IntKind.i64.wrap (10 * a) = b := by rw [IntKind.wrap_i64]; omega
          have wc : IntKind.i64.wrap ((n0 : Int) + b) = c := by rw [IntKind.wrap_i64]; omega
          have wp : IntKind.i64.wrap (c + d) = p := by rw [IntKind.wrap_i64]; omega
          have HQ := Lib.hid hq
          clear hb hc hp hq ea ed el hml hcc
          go_wp2_with fail
          refine wp_region_noPanic ?_
          refine wp_region_held_drew (S := fun W => W.cell? ⟨ga, m * 2, none⟩ = some (.int .i64 p) ∧ W.cell? ⟨ga, m * 2 + 1, none⟩ = some (.int .i64 q)) (by kernel_rfl) (⟨c0, c1⟩) (fun hHeld => ?_)
          refine wpAnyH_take (i := 0) (oi := ({ dst := some 61, op := Op.move (Operand.tmp 10), type := 47, pos := "law.go:178", after := #[], guard := none } : Oper)) (v := ?_) rfl (by kernel_rfl) (by kernel_rfl) (by kernel_rfl) (fun _ _ _ h => h) (Or.inl ⟨by rfl, ?_⟩) (by assumption) ?_
          rotate_left
          · (intro w hSw; (try dsimp only at hSw); go_simp) <;> with_reducible rfl
          (try simp only [Act.put, List.setIfInBounds_toArray, List.set_cons_zero, List.set_cons_succ])
          refine wpAnyH_take (i := 1) (oi := ({ dst := some 62, op := Op.move (Operand.tmp 11), type := 3, pos := "law.go:178", after := #[], guard := none } : Oper)) (v := ?_) rfl (by kernel_rfl) (by kernel_rfl) (by kernel_rfl) (fun _ _ _ h => h) (Or.inl ⟨by rfl, ?_⟩) (by assumption) ?_
          rotate_left
          · (intro w hSw; (try dsimp only at hSw); go_simp) <;> with_reducible rfl
          (try simp only [Act.put, List.setIfInBounds_toArray, List.set_cons_zero, List.set_cons_succ])
          refine wpAnyH_take (i := 2) (oi := ({ dst := some 63, op := Op.indexAddr 47 (Operand.tmp 61) (Operand.tmp 62), type := 0, pos := "law.go:178", after := #[{ on := 0, ground := Ground.data }, { on := 1, ground := Ground.data }], guard := none } : Oper)) (v := ?_) rfl (by kernel_rfl) (by kernel_rfl) (by kernel_rfl) (fun _ _ _ h => h) (Or.inl ⟨by rfl, ?_⟩) (by assumption) ?_
          rotate_left
          · (intro w hSw; (try dsimp only at hSw); go_simp) <;> with_reducible rfl
          (try simp only [Act.put, List.setIfInBounds_toArray, List.set_cons_zero, List.set_cons_succ])
          refine wpAnyH_take (i := 3) (oi := ({ dst := some 64, op := Op.fieldAddr 27 (Operand.tmp 63) 0, type := 0, pos := "law.go:178", after := #[{ on := 2, ground := Ground.data }], guard := none } : Oper)) (v := ?_) rfl (by kernel_rfl) (by kernel_rfl) (by kernel_rfl) (fun _ _ _ h => h) (Or.inl ⟨by rfl, ?_⟩) (by assumption) ?_
          rotate_left
          · (intro w hSw; (try dsimp only at hSw); go_simp) <;> with_reducible rfl
          (try simp only [Act.put, List.setIfInBounds_toArray, List.set_cons_zero, List.set_cons_succ])
          refine wpAnyH_take (i := 4) (oi := ({ dst := some 65, op := Op.load 3 (Operand.tmp 64), type := 3, pos := "law.go:178", after := #[{ on := 3, ground := Ground.data }], guard := none } : Oper)) (v := ?_) rfl (by kernel_rfl) (by kernel_rfl) (by kernel_rfl) (fun _ _ _ h => h) (Or.inl ⟨by rfl, ?_⟩) (by assumption) ?_
          rotate_left
          · (intro w hSw; (try dsimp only at hSw); go_simp) <;> with_reducible rfl
          (try simp only [Act.put, List.setIfInBounds_toArray, List.set_cons_zero, List.set_cons_succ])
          refine wpAnyH_take (i := 5) (oi := ({ dst := some 66, op := Op.move (Operand.tmp 7), type := 3, pos := "law.go:178", after := #[], guard := none } : Oper)) (v := ?_) rfl (by kernel_rfl) (by kernel_rfl) (by kernel_rfl) (fun _ _ _ h => h) (Or.inl ⟨by rfl, ?_⟩) (by assumption) ?_
          rotate_left
          · (intro w hSw; (try dsimp only at hSw); go_simp) <;> with_reducible rfl
          (try simp only [Act.put, List.setIfInBounds_toArray, List.set_cons_zero, List.set_cons_succ])
          refine wpAnyH_take (i := 6) (oi := ({ dst := some 67, op := Op.move (Operand.tmp 11), type := 3, pos := "law.go:178", after := #[], guard := none } : Oper)) (v := ?_) rfl (by kernel_rfl) (by kernel_rfl) (by kernel_rfl) (fun _ _ _ h => h) (Or.inl ⟨by rfl, ?_⟩) (by assumption) ?_
          rotate_left
          · (intro w hSw; (try dsimp only at hSw); go_simp) <;> with_reducible rfl
          (try simp only [Act.put, List.setIfInBounds_toArray, List.set_cons_zero, List.set_cons_succ])
          refine wpAnyH_take (i := 7) (oi := ({ dst := some 68, op := Op.binOp BinOp.quo 3 (Operand.tmp 67) (Operand.const (Value.int IntKind.i64 4)) 3, type := 3, pos := "law.go:178", after := #[{ on := 6, ground := Ground.data }], guard := none } : Oper)) (v := ?_) rfl (by kernel_rfl) (by kernel_rfl) (by kernel_rfl) (fun _ _ _ h => h) (Or.inl ⟨by rfl, ?_⟩) (by assumption) ?_
          rotate_left
          · (intro w hSw; (try dsimp only at hSw); go_simp) <;> with_reducible rfl
          (try simp only [Act.put, List.setIfInBounds_toArray, List.set_cons_zero, List.set_cons_succ])
          refine wpAnyH_take (i := 8) (oi := ({ dst := some 69, op := Op.binOp BinOp.mul 3 (Operand.const (Value.int IntKind.i64 10)) (Operand.tmp 68) 3, type := 3, pos := "law.go:178", after := #[{ on := 7, ground := Ground.data }], guard := none } : Oper)) (v := ?_) rfl (by kernel_rfl) (by kernel_rfl) (by kernel_rfl) (fun _ _ _ h => h) (Or.inl ⟨by rfl, ?_⟩) (by assumption) ?_
          rotate_left
          · (intro w hSw; (try dsimp only at hSw); go_simp) <;> with_reducible rfl
          (try simp only [Act.put, List.setIfInBounds_toArray, List.set_cons_zero, List.set_cons_succ])
          refine wpAnyH_take (i := 9) (oi := ({ dst := some 70, op := Op.binOp BinOp.add 3 (Operand.tmp 66) (Operand.tmp 69) 3, type := 3, pos := "law.go:178", after := #[{ on := 5, ground := Ground.data }, { on := 8, ground := Ground.data }], guard := none } : Oper)) (v := ?_) rfl (by kernel_rfl) (by kernel_rfl) (by kernel_rfl) (fun _ _ _ h => h) (Or.inl ⟨by rfl, ?_⟩) (by assumption) ?_
          rotate_left
          · (intro w hSw; (try dsimp only at hSw); go_simp) <;> with_reducible rfl
          (try simp only [Act.put, List.setIfInBounds_toArray, List.set_cons_zero, List.set_cons_succ])
          refine wpAnyH_take (i := 10) (oi := ({ dst := some 71, op := Op.move (Operand.tmp 11), type := 3, pos := "law.go:178", after := #[], guard := none } : Oper)) (v := ?_) rfl (by kernel_rfl) (by kernel_rfl) (by kernel_rfl) (fun _ _ _ h => h) (Or.inl ⟨by rfl, ?_⟩) (by assumption) ?_
          rotate_left
          · (intro w hSw; (try dsimp only at hSw); go_simp) <;> with_reducible rfl
          (try simp only [Act.put, List.setIfInBounds_toArray, List.set_cons_zero, List.set_cons_succ])
          refine wpAnyH_take (i := 11) (oi := ({ dst := some 72, op := Op.binOp BinOp.rem 3 (Operand.tmp 71) (Operand.const (Value.int IntKind.i64 4)) 3, type := 3, pos := "law.go:178", after := #[{ on := 10, ground := Ground.data }], guard := none } : Oper)) (v := ?_) rfl (by kernel_rfl) (by kernel_rfl) (by kernel_rfl) (fun _ _ _ h => h) (Or.inl ⟨by rfl, ?_⟩) (by assumption) ?_
          rotate_left
          · (intro w hSw; (try dsimp only at hSw); go_simp) <;> with_reducible rfl
          (try simp only [Act.put, List.setIfInBounds_toArray, List.set_cons_zero, List.set_cons_succ])
          refine wpAnyH_take (i := 12) (oi := ({ dst := some 73, op := Op.binOp BinOp.add 3 (Operand.tmp 70) (Operand.tmp 72) 3, type := 3, pos := "law.go:178", after := #[{ on := 9, ground := Ground.data }, { on := 11, ground := Ground.data }], guard := none } : Oper)) (v := ?_) rfl (by kernel_rfl) (by kernel_rfl) (by kernel_rfl) (fun _ _ _ h => h) (Or.inl ⟨by rfl, ?_⟩) (by assumption) ?_
          rotate_left
          · (intro w hSw; (try dsimp only at hSw); go_simp) <;> with_reducible rfl
          (try simp only [Act.put, List.setIfInBounds_toArray, List.set_cons_zero, List.set_cons_succ])
          refine wpAnyH_take (i := 13) (oi := ({ dst := some 74, op := Op.binOp BinOp.neq 3 (Operand.tmp 65) (Operand.tmp 73) 3, type := 4, pos := "law.go:178", after := #[{ on := 4, ground := Ground.data }, { on := 12, ground := Ground.data }], guard := none } : Oper)) (v := ?_) rfl (by kernel_rfl) (by kernel_rfl) (by kernel_rfl) (fun _ _ _ h => h) (Or.inl ⟨by rfl, ?_⟩) (by assumption) ?_
          rotate_left
          · (intro w hSw; (try dsimp only at hSw); go_simp) <;> with_reducible rfl
          (try simp only [Act.put, List.setIfInBounds_toArray, List.set_cons_zero, List.set_cons_succ])
          refine wpAnyH_take (i := 14) (oi := ({ dst := some 75, op := Op.move (Operand.tmp 74), type := 4, pos := "law.go:178", after := #[{ on := 13, ground := Ground.data }], guard := none } : Oper)) (v := ?_) rfl (by kernel_rfl) (by kernel_rfl) (by kernel_rfl) (fun _ _ _ h => h) (Or.inl ⟨by rfl, ?_⟩) (by assumption) ?_
          rotate_left
          · (intro w hSw; (try dsimp only at hSw); go_simp) <;> with_reducible rfl
          (try simp only [Act.put, List.setIfInBounds_toArray, List.set_cons_zero, List.set_cons_succ])
          refine wpAnyH_take (i := 15) (oi := ({ dst := some 76, op := Op.move (Operand.tmp 10), type := 47, pos := "law.go:178", after := #[{ on := 14, ground := Ground.guard }], guard := some (14, false) } : Oper)) (v := ?_) rfl (by kernel_rfl) (by kernel_rfl) (by kernel_rfl) (fun _ _ _ h => h) (Or.inl ⟨by rfl, ?_⟩) (by assumption) ?_
          rotate_left
          · (intro w hSw; (try dsimp only at hSw); go_simp) <;> with_reducible rfl
          (try simp only [Act.put, List.setIfInBounds_toArray, List.set_cons_zero, List.set_cons_succ])
          refine wpAnyH_take (i := 16) (oi := ({ dst := some 77, op := Op.move (Operand.tmp 11), type := 3, pos := "law.go:178", after := #[{ on := 14, ground := Ground.guard }], guard := some (14, false) } : Oper)) (v := ?_) rfl (by kernel_rfl) (by kernel_rfl) (by kernel_rfl) (fun _ _ _ h => h) (Or.inl ⟨by rfl, ?_⟩) (by assumption) ?_
          rotate_left
          · (intro w hSw; (try dsimp only at hSw); go_simp) <;> with_reducible rfl
          (try simp only [Act.put, List.setIfInBounds_toArray, List.set_cons_zero, List.set_cons_succ])
          refine wpAnyH_take (i := 17) (oi := ({ dst := some 78, op := Op.indexAddr 47 (Operand.tmp 76) (Operand.tmp 77), type := 0, pos := "law.go:178", after := #[{ on := 15, ground := Ground.data }, { on := 16, ground := Ground.data }, { on := 14, ground := Ground.guard }], guard := some (14, false) } : Oper)) (v := ?_) rfl (by kernel_rfl) (by kernel_rfl) (by kernel_rfl) (fun _ _ _ h => h) (Or.inl ⟨by rfl, ?_⟩) (by assumption) ?_
          rotate_left
          · (intro w hSw; (try dsimp only at hSw); go_simp) <;> with_reducible rfl
          (try simp only [Act.put, List.setIfInBounds_toArray, List.set_cons_zero, List.set_cons_succ])
          refine wpAnyH_take (i := 18) (oi := ({ dst := some 79, op := Op.fieldAddr 27 (Operand.tmp 78) 1, type := 0, pos := "law.go:178", after := #[{ on := 17, ground := Ground.data }, { on := 14, ground := Ground.guard }], guard := some (14, false) } : Oper)) (v := ?_) rfl (by kernel_rfl) (by kernel_rfl) (by kernel_rfl) (fun _ _ _ h => h) (Or.inl ⟨by rfl, ?_⟩) (by assumption) ?_
          rotate_left
          · (intro w hSw; (try dsimp only at hSw); go_simp) <;> with_reducible rfl
          (try simp only [Act.put, List.setIfInBounds_toArray, List.set_cons_zero, List.set_cons_succ])
          refine wpAnyH_take (i := 19) (oi := ({ dst := some 80, op := Op.load 3 (Operand.tmp 79), type := 3, pos := "law.go:178", after := #[{ on := 18, ground := Ground.data }, { on := 14, ground := Ground.guard }], guard := some (14, false) } : Oper)) (v := ?_) rfl (by kernel_rfl) (by kernel_rfl) (by kernel_rfl) (fun _ _ _ h => h) (Or.inl ⟨by rfl, ?_⟩) (by assumption) ?_
          rotate_left
          · (intro w hSw; (try dsimp only at hSw); go_simp) <;> with_reducible rfl
          (try simp only [Act.put, List.setIfInBounds_toArray, List.set_cons_zero, List.set_cons_succ])
          refine wpAnyH_take (i := 20) (oi := ({ dst := some 81, op := Op.move (Operand.tmp 11), type := 3, pos := "law.go:178", after := #[{ on := 14, ground := Ground.guard }], guard := some (14, false) } : Oper)) (v := ?_) rfl (by kernel_rfl) (by kernel_rfl) (by kernel_rfl) (fun _ _ _ h => h) (Or.inl ⟨by rfl, ?_⟩) (by assumption) ?_
          rotate_left
          · (intro w hSw; (try dsimp only at hSw); go_simp) <;> with_reducible rfl
          (try simp only [Act.put, List.setIfInBounds_toArray, List.set_cons_zero, List.set_cons_succ])
          refine wpAnyH_take (i := 21) (oi := ({ dst := some 82, op := Op.binOp BinOp.quo 3 (Operand.tmp 81) (Operand.const (Value.int IntKind.i64 4)) 3, type := 3, pos := "law.go:178", after := #[{ on := 20, ground := Ground.data }, { on := 14, ground := Ground.guard }], guard := some (14, false) } : Oper)) (v := ?_) rfl (by kernel_rfl) (by kernel_rfl) (by kernel_rfl) (fun _ _ _ h => h) (Or.inl ⟨by rfl, ?_⟩) (by assumption) ?_
          rotate_left
          · (intro w hSw; (try dsimp only at hSw); go_simp) <;> with_reducible rfl
          (try simp only [Act.put, List.setIfInBounds_toArray, List.set_cons_zero, List.set_cons_succ])
          refine wpAnyH_ready (rs := [22]) (by kernel_rfl) (by simp) ?_
          refine AllReadyH.cons (o := ({ dst := some 83, op := Op.call { callee := Callee.value (Operand.func 22), args := #[Operand.tmp 82], argTypes := #[3] }, type := 3, pos := "law.go:178", after := #[{ on := 21, ground := Ground.data }, { on := 14, ground := Ground.chain }, { on := 14, ground := Ground.guard }], guard := some (14, false) } : Oper)) rfl (fun K hK => ?_) ?_
          · go_simp
            refine (cpages_at a q rfl HQ.out _).mono ?_
            rintro e y1 ⟨rfl, rfl⟩
            go_wp2_with fail
            refine hK.out _ _ ?_ (fun hHeld => ?_)
            · exact ⟨c0, c1⟩
            clear hK K
            (try simp only [Act.put, List.setIfInBounds_toArray, List.set_cons_zero, List.set_cons_succ])
            refine wpAnyH_take (i := 23) (oi := ({ dst := some 84, op := Op.binOp BinOp.neq 3 (Operand.tmp 80) (Operand.tmp 83) 3, type := 4, pos := "law.go:178", after := #[{ on := 19, ground := Ground.data }, { on := 22, ground := Ground.data }, { on := 14, ground := Ground.guard }], guard := some (14, false) } : Oper)) (v := ?_) rfl (by kernel_rfl) (by kernel_rfl) (by kernel_rfl) (fun _ _ _ h => h) (Or.inl ⟨by rfl, ?_⟩) (by assumption) ?_
            rotate_left
            · (intro w hSw; (try dsimp only at hSw); go_simp) <;> with_reducible rfl
            (try simp only [Act.put, List.setIfInBounds_toArray, List.set_cons_zero, List.set_cons_succ])
            refine wpAnyH_take (i := 24) (oi := ({ dst := some 85, op := Op.pick (Operand.tmp 75) (Operand.const (Value.bool true)) (Operand.tmp 84), type := 4, pos := "law.go:178", after := #[{ on := 14, ground := Ground.data }, { on := 23, ground := Ground.data }], guard := none } : Oper)) (v := ?_) rfl (by kernel_rfl) (by kernel_rfl) (by kernel_rfl) (fun _ _ _ h => h) (Or.inl ⟨by rfl, ?_⟩) (by assumption) ?_
            rotate_left
            · (intro w hSw; (try dsimp only at hSw); go_simp) <;> with_reducible rfl
            (try simp only [Act.put, List.setIfInBounds_toArray, List.set_cons_zero, List.set_cons_succ])
            refine wpAnyH_done (by kernel_rfl) ?_ _
            refine NoPanic.normal ?_
            go_wp2_with fail
            go_roundw
            case rel => exact ⟨m + 1, by omega, by go_num, K5.out.drew, R5.out.drew⟩
            case measure => simp [intOf]; omega
          exact AllReadyH.nil
        · have e28 : m = 28 := by omega
          subst e28
          clear R5
          obtain ⟨j, hj⟩ : ∃ j : Int, (n1 : Int) % 7 = j := ⟨_, rfl⟩
          have j0 : 0 ≤ j := by omega
          have j7 : j < 7 := by omega
          have tn := M.full_turn (n := (n0 : Int)) (by omega) j0 j7
          obtain ⟨x, hx⟩ : ∃ x : Int, (n0 : Int) + 10 * j + 3 = x := ⟨_, rfl⟩
          rw [hx] at tn
          have TN := Lib.hid tn
          clear tn
          go_wp2_with fail
          refine (k_pop K5.out j).mono ?_
          rintro e w6 ⟨rfl, k6, _⟩
          rw [TN.out.1, TN.out.2.1]
          have K6 := Lib.hid k6
          clear k6
          go_wp2_with fail
          refine (k_len K6.out j).mono ?_
          rintro e w7 ⟨rfl, rfl⟩
          rw [TN.out.2.2.1]
          go_wp2_with fail
          refine (k_push K6.out j x).mono ?_
          rintro e w7 ⟨rfl, k7, _⟩
          rw [TN.out.2.2.2.1]
          rw [TN.out.2.2.2.2, M.left_start] at k7
          have K7 := Lib.hid k7
          clear k7 K5 K6 TN hx hj
          go_wp2_with fail
          go_loopw [15, 16, 17, 18] (fun i _ _ _ wr => ∃ k : Nat, k ≤ 7 ∧ i = .int .i64 (k : Int) ∧ Kp w wr g (M.cntF n0 (M.leftC k 4))) (fun i _ _ _ _ => 7 - (intOf i).toNat)
          case atStart => exact ⟨0, by omega, rfl, K7.out⟩
          case round =>
            obtain ⟨k, hk7, rfl, hkk⟩ := hrel
            clear K7
            have HKK := Lib.hid hkk
            clear hkk
            by_cases hlk : k < 7
            · have d7 : decide ((k : Int) < 7) = true := by simp; omega
              go_wp2_with fail
              rename_i wo
              go_loopw [16, 17, 18] (fun i _ _ wr => ∃ (m : Nat) (z : Int), m ≤ 4 ∧ z = (m : Int) - 1 ∧ i = .int .i64 z ∧ Kp w wr g (M.cntF n0 (M.leftC k m))) (fun i _ _ _ => (intOf i + 1).toNat)
              case atStart => exact ⟨4, 3, by omega, by omega, rfl, HKK.out⟩
              case round =>
                obtain ⟨y, z, hy, hz, rfl, hky⟩ := hrel
                have KY := Lib.hid hky
                clear hky HKK
                rcases Nat.eq_zero_or_pos y with h0 | h0
                · subst h0
                  have ez : z = -1 := by omega
                  subst ez
                  have KN := Lib.hid KY.out
                  rw [M.left_next] at KN
                  clear hz
                  go_wp2_with fail
                  go_roundw
                  case rel => exact ⟨k + 1, by omega, by go_num, KN.out⟩
                  case measure => simp [intOf]; omega
                · obtain ⟨u, rfl⟩ : ∃ u, y = u + 1 := ⟨y - 1, by omega⟩
                  have ez : z = (u : Int) := by omega
                  subst ez
                  have st := M.left_step (n0 : Int) k u hlk
                  obtain ⟨x, hx⟩ : ∃ x : Int, (n0 : Int) + 10 * (k : Int) + (u : Int) = x := ⟨_, rfl⟩
                  rw [hx] at st
                  have ST := Lib.hid st
                  clear st hz h0
                  go_wp2_with fail
                  refine (k_pop KY.out k).mono ?_
                  rintro e w6 ⟨rfl, k6, _⟩
                  rw [ST.out.1, ST.out.2.1]
                  rw [ST.out.2.2] at k6
                  have K6 := Lib.hid k6
                  clear k6
                  go_wp2_with fail
                  go_roundw
                  case rel => exact ⟨u, _, by omega, rfl, by go_num, K6.out⟩
                  case measure => simp [intOf]
            · have e7 : k = 7 := by omega
              subst e7
              have KE := HKK.out
              rw [M.left_end] at KE
              have HE := Lib.hid KE
              clear KE HKK
              go_wp2_with fail
              refine (k_pages HE.out).mono ?_
              rintro e w6 ⟨rfl, rfl⟩
              rw [M.sum_empty]
              go_wp2_with fail
              refine (k_all HE.out).mono ?_
              rintro e w7 ⟨gb, z, rfl, hz, _, _, _, hb7⟩
              have hz0 : z = 0 := by rw [hz]; rfl
              subst hz0
              have K9 := Lib.hid (HE.out.below hb7)
              clear hz hb7
              go_wp2_with fail
              go_ret
              exact ⟨rfl, K9.out.bel⟩

/-! The row's step. -/
set_option maxRecDepth 100000 in
theorem lifted (os : Os) (started : os.Started) (H : Type) (enc : TypeId × Value → H) :
    ReturnsInHanded {} Try.checked os 6 .any (Rows.cacheFillsSpec.pre6 enc Try.prog Try.f6 Rows.cacheFillsRow.domain false) (Rows.cacheFillsSpec.post enc Try.prog Try.f6 false true false false) := by
  refine returnsInHanded_of_change (C := Try.checked) own started (by kernel_rfl) Try.func6
    (ChangeSpec.witness6 (enc := enc) (C := Try.checked) false ⟨#[], #[.int .u16 0, .int .u8 0], []⟩ 8 (by kernel_rfl) (by kernel_rfl) (by kernel_rfl) (by kernel_rfl)) ?_
  intro W base args ds gs before hval0 hW hcnd _
  have hval : ∀ (j : Nat) t v, Try.f6.params[j]? = some t → args[j]? = some v → Value.okWide Try.prog W .any base t v := hval0
  have hW' := hW
  obtain ⟨p, q, hA0, hV, rfl, hfz, hnd⟩ := hW
  have hA : DataW.TrodAll enc Try.prog W 0 (fun _ => true) true Try.f6.params.toList args.toList ds p := hA0
  rw [Try.params6] at hA hval
  obtain ⟨v0, vs0, d0, ds0, p0, q0, hargs, rfl, rfl, h0, r0⟩ := trodAll_cons hA
  obtain ⟨v1, vs1, d1, ds1, p1, q1, rfl, rfl, rfl, h1, r1⟩ := trodAll_cons r0
  obtain ⟨rfl, rfl, rfl⟩ := trodAll_nil r1
  obtain rfl : args = #[v0, v1] := by cases args; simp_all
  obtain ⟨rfl, rfl⟩ := trodVars_none hV
  obtain ⟨a0, rfl, rfl, rfl, w0⟩ := open_int Try.underlying53 (hval 0 53 v0 rfl rfl) h0
  obtain ⟨a1, rfl, rfl, rfl, w1⟩ := open_int Try.underlying5 (hval 1 5 v1 rfl rfl) h1
  clear hA0 hval0
  refine (walk a0 a1 W w0 w1).mono fun e W' ⟨he, bel⟩ => ?_
  subst he
  exact ⟨_, rfl, _, _, _, [], _, [], hW', trodAll_mk1 (shut_bool Try.underlying4 _), (trodAll_cons_mk (shut_int Try.underlying53 w0) (trodAll_cons_mk (shut_int Try.underlying5 w1) trodAll_mk0)), rfl, bel.frame _, fun h => by cases h⟩

theorem over : Rows.cacheFillsRow.holds Try.pinned (OpenSpec.ofChange Rows.cacheFillsSpec) :=
  OpenClaim.holds_of_wide 6 Try.f6 rfl rfl rfl rfl rfl rfl rfl ⟨rfl, rfl, rfl, rfl, rfl⟩ rfl rfl rfl rfl rfl (by kernel_rfl) Try.func6 (by kernel_rfl)
    (of_decide_eq_true (by kernel_rfl)) (by unfold Func.isWrapper; first | (rw [if_pos (by decide +kernel)]; kernel_rfl) | (rw [if_neg (by decide +kernel)]; exact ⟨rfl, rfl⟩))
    (fun os started H enc _ => lifted os started H enc)

/-- The statement. -/
theorem proved : Rows.CacheFillsSaid := over
#print axioms proved
end Go.Proofs.Yteiiiapjloincaa.cacheFills
