/-
  ChunkKinds is true whatever the input: chunks that are got one behind the other lie one behind the other, each has its own header, and the headers of others stay; no conditions.
-/
import Derived.Test.YtmboibipabkhaaaRows
import Derived.WalkKit
import Derived.ProofKit
import Derived.OpenShut
import Derived.ShutString
import Derived.ChangeOld
import Derived.Below
import Derived.Test.YtmboibipabkhaaaK12
namespace Go.Proofs.Ytmboibipabkhaaa.chunkKinds
open Go.ChangeShapes Go.WideShapes Go.ChangeAt Go.RowKit
set_option linter.unusedVariables false

theorem own : ownKnob Try.prog.godebug = none := by kernel_rfl

/-! The walk. -/
set_option maxRecDepth 20000 in
set_option maxHeartbeats 8000000 in
theorem walk (a0 : Option Addr) (len0 cap0 : Nat) (z0 : List Int) (a1 : Option Addr) (len1 cap1 : Nat) (z1 : List Int) (w : World) (w0 : IsRow .u8 w a0 len0 cap0 z0) (w1 : IsRow .u8 w a1 len1 cap1 z1) :
    Calls Try.prog 8 #[.slice a0 len0 cap0, .slice a1 len1 cap1] w fun e w' => e = .returned (.bool true) ∧ Below w.heap.size w w' := by
  obtain ⟨ks, hks, hkb, hkc⟩ := bytes_of w0
  obtain ⟨ps, hps, hpb, hpc⟩ := bytes_of w1
  have HA := Lib.hid (And.intro hks (And.intro hkb hkc))
  have HP := Lib.hid (And.intro hps (And.intro hpb hpc))
  clear w0 w1 hks hkb hkc hps hpb hpc
  go_enter Try.func8, Try.ntmps8
  go_wp2_with fail
  refine (awake10_any _).mono ?_
  rintro e w1 ⟨rfl, b1⟩
  have B1 := Lib.hid b1
  clear b1
  by_cases h20 : 20 < len0
  · have d20 : decide (20 < (len0 : Int)) = true := by simp; omega
    go_wp2_with fail
    go_ret
    exact ⟨rfl, B1.out⟩
  have d20 : decide (20 < (len0 : Int)) = false := by simp; omega
  by_cases h00 : len1 = 0
  · subst h00
    go_wp2_with fail
    go_ret
    exact ⟨rfl, B1.out⟩
  have e00 : ((len1 : Int) == 0) = false := by simp; omega
  have HL := Lib.hid (show 0 < len1 ∧ len0 ≤ 20 by omega)
  go_wp2_with fail
  clear d20 e00
  refine (cnew_any B1.out 3000 3000 (by decide)).mono ?_
  rintro e w2 ⟨s, a, b, c, Q0, rfl, h2, _, _, _⟩
  have H2 := Lib.hid (show KdG w w2 s a b c none none 0 0 0 0 (hcells []) (ints10 []) (St.new 3000) Q0 (fun _ => False) (30 * 0) ∧ Kd 0 0 (St.new 3000) [] from ⟨⟨h2, Lst.none' _ _ _ _ _ _, Lst.none' _ _ _ _ _ _, fun x hx => (rowD_none x hx).elim, fun x hx => (rowD_none x hx).elim, fun x hx => (rowD_none x hx).elim⟩, Kd.new⟩)
  clear h2
  go_wp2_with fail
  go_loopw [7, 8, 9, 10] (fun at' sh sf i wr => ∃ (j : Nat) (x : Int) (A A2 : Option Addr) (c1 c2 : Nat) (Z : St) (Q D : Nat → Prop) (hs : List Kh), j ≤ len0 ∧ i = .int .i64 (j : Int) ∧ at' = .int .i64 x ∧ sh = .slice A j c1 ∧ sf = .slice A2 j c2 ∧ Hid (KdG w wr s a b c A A2 j j c1 c2 (hcells hs) (ints10 (hs.map (·.p))) Z Q D (30 * j) ∧ Kd j x Z hs)) (fun _ _ _ i _ => len0 - (intOf i).toNat)
  case atStart => exact ⟨0, 0, none, none, 0, 0, _, _, _, [], by omega, rfl, rfl, rfl, rfl, H2⟩
  case round =>
    clear H2
    obtain ⟨j, x, A, A2, c1, c2, Z, Q, D, hs, hj, rfl, rfl, rfl, rfl, HI⟩ := hrel
    by_cases hlt : j < len0
    · obtain ⟨m, hm⟩ : ∃ m, m = j % len1 := ⟨_, rfl⟩
      have hml : m < len1 := by rw [hm]; exact Nat.mod_lt _ HL.out.1
      have hmI : (j : Int).tmod (len1 : Int) = (m : Int) := by rw [hm]; rfl
      have hjk : j < ks.length := by have := HA.out.1; omega
      have hmp : m < ps.length := by have := HP.out.1; omega
      obtain ⟨ad0, rfl, hc0⟩ := HA.out.2.2 (by omega)
      obtain ⟨ad1, rfl, hc1⟩ := HP.out.2.2 (by omega)
      have f0 := hc0 j hjk
      have f1 := hc1 m hmp
      have hk8 := HA.out.2.1 _ (List.getElem_mem hjk)
      have hp8 := HP.out.2.1 _ (List.getElem_mem hmp)
      generalize ks[j] = kk at *
      generalize ps[m] = pp at *
      have HC := Lib.hid (show ∀ W, Below w.heap.size w W → W.cell? (ad0.add j) = some (.int .u8 (kk : Int)) ∧ W.cell? (ad1.add m) = some (.int .u8 (pp : Int)) from fun W hW => ⟨(hW.cell (lt_of_cell f0)).trans f0, (hW.cell (lt_of_cell f1)).trans f1⟩)
      have HR := Lib.hid (show kk < 256 ∧ pp < 256 ∧ j < 20 from ⟨hk8, hp8, by have := HL.out; omega⟩)
      have ST := Lib.hid (HI.out.2.step (by have := HR.out; omega) ((pp : Int) % 90 + 1) (by omega) kk (by omega))
      have e0 : ((len1 : Int) == 0) = false := by have := HL.out; simp; omega
      have hj20 : j < 20 := HR.out.2.2
      have HW := Lib.hid (kd_args pp kk j (by omega) (by omega) (by omega))
      have hN := (HC.out wr HI.out.1.chk.bel)
      clear f0 f1 hc0 hc1 hm
      go_upto_region 13 with fail
      refine wp_region_noPanic ?_
      refine wp_region_held_drew (S := fun W => W.cell? (ad0.add j) = some (.int .u8 (kk : Int)) ∧ W.cell? (ad1.add m) = some (.int .u8 (pp : Int))) (by kernel_rfl) (⟨hN.1, hN.2⟩) (fun hHeld => ?_)
      refine wpAnyH_take (i := 0) (oi := ({ dst := some 38, op := Op.move (Operand.tmp 6), type := 24, pos := "law.go:297", after := #[], guard := none } : Oper)) (v := ?_) rfl (by kernel_rfl) (by kernel_rfl) (by kernel_rfl) (fun _ _ _ h => h) (Or.inl ⟨by rfl, ?_⟩) (by assumption) ?_
      rotate_left
      · (intro w hSw; (try dsimp only at hSw); go_simp) <;> with_reducible rfl
      (try simp only [Act.put, List.setIfInBounds_toArray, List.set_cons_zero, List.set_cons_succ])
      refine wpAnyH_take (i := 1) (oi := ({ dst := some 39, op := Op.move (Operand.tmp 1), type := 53, pos := "law.go:297", after := #[], guard := none } : Oper)) (v := ?_) rfl (by kernel_rfl) (by kernel_rfl) (by kernel_rfl) (fun _ _ _ h => h) (Or.inl ⟨by rfl, ?_⟩) (by assumption) ?_
      rotate_left
      · (intro w hSw; (try dsimp only at hSw); go_simp) <;> with_reducible rfl
      (try simp only [Act.put, List.setIfInBounds_toArray, List.set_cons_zero, List.set_cons_succ])
      refine wpAnyH_take (i := 2) (oi := ({ dst := some 40, op := Op.move (Operand.tmp 10), type := 3, pos := "law.go:297", after := #[], guard := none } : Oper)) (v := ?_) rfl (by kernel_rfl) (by kernel_rfl) (by kernel_rfl) (fun _ _ _ h => h) (Or.inl ⟨by rfl, ?_⟩) (by assumption) ?_
      rotate_left
      · (intro w hSw; (try dsimp only at hSw); go_simp) <;> with_reducible rfl
      (try simp only [Act.put, List.setIfInBounds_toArray, List.set_cons_zero, List.set_cons_succ])
      refine wpAnyH_take (i := 3) (oi := ({ dst := some 41, op := Op.move (Operand.tmp 1), type := 53, pos := "law.go:297", after := #[], guard := none } : Oper)) (v := ?_) rfl (by kernel_rfl) (by kernel_rfl) (by kernel_rfl) (fun _ _ _ h => h) (Or.inl ⟨by rfl, ?_⟩) (by assumption) ?_
      rotate_left
      · (intro w hSw; (try dsimp only at hSw); go_simp) <;> with_reducible rfl
      (try simp only [Act.put, List.setIfInBounds_toArray, List.set_cons_zero, List.set_cons_succ])
      refine wpAnyH_take (i := 4) (oi := ({ dst := some 42, op := Op.call { callee := Callee.builtin Builtin.len, args := #[Operand.tmp 41], argTypes := #[53] }, type := 3, pos := "law.go:297", after := #[{ on := 3, ground := Ground.data }], guard := none } : Oper)) (v := ?_) rfl (by kernel_rfl) (by kernel_rfl) (by kernel_rfl) (fun _ _ _ h => h) (Or.inl ⟨by rfl, ?_⟩) (by assumption) ?_
      rotate_left
      · (intro w hSw; (try dsimp only at hSw); go_simp) <;> with_reducible rfl
      (try simp only [Act.put, List.setIfInBounds_toArray, List.set_cons_zero, List.set_cons_succ])
      refine wpAnyH_take (i := 5) (oi := ({ dst := some 43, op := Op.binOp BinOp.rem 3 (Operand.tmp 40) (Operand.tmp 42) 3, type := 3, pos := "law.go:297", after := #[{ on := 2, ground := Ground.data }, { on := 4, ground := Ground.data }], guard := none } : Oper)) (v := ?_) rfl (by kernel_rfl) (by kernel_rfl) (by kernel_rfl) (fun _ _ _ h => h) (Or.inl ⟨by rfl, ?_⟩) (by assumption) ?_
      rotate_left
      · (intro w hSw; (try dsimp only at hSw); go_simp) <;> with_reducible rfl
      (try simp only [Act.put, List.setIfInBounds_toArray, List.set_cons_zero, List.set_cons_succ])
      refine wpAnyH_take (i := 6) (oi := ({ dst := some 44, op := Op.indexAddr 53 (Operand.tmp 39) (Operand.tmp 43), type := 0, pos := "law.go:297", after := #[{ on := 1, ground := Ground.data }, { on := 5, ground := Ground.data }], guard := none } : Oper)) (v := ?_) rfl (by kernel_rfl) (by kernel_rfl) (by kernel_rfl) (fun _ _ _ h => h) (Or.inl ⟨by rfl, ?_⟩) (by assumption) ?_
      rotate_left
      · (intro w hSw; (try dsimp only at hSw); go_simp) <;> with_reducible rfl
      (try simp only [Act.put, List.setIfInBounds_toArray, List.set_cons_zero, List.set_cons_succ])
      refine wpAnyH_take (i := 7) (oi := ({ dst := some 45, op := Op.load 5 (Operand.tmp 44), type := 5, pos := "law.go:297", after := #[{ on := 6, ground := Ground.data }], guard := none } : Oper)) (v := ?_) rfl (by kernel_rfl) (by kernel_rfl) (by kernel_rfl) (fun _ _ _ h => h) (Or.inl ⟨by rfl, ?_⟩) (by assumption) ?_
      rotate_left
      · (intro w hSw; (try dsimp only at hSw); go_simp) <;> with_reducible rfl
      (try simp only [Act.put, List.setIfInBounds_toArray, List.set_cons_zero, List.set_cons_succ])
      refine wpAnyH_take (i := 8) (oi := ({ dst := some 46, op := Op.convert 5 3 (Operand.tmp 45), type := 3, pos := "law.go:297", after := #[{ on := 7, ground := Ground.data }], guard := none } : Oper)) (v := ?_) rfl (by kernel_rfl) (by kernel_rfl) (by kernel_rfl) (fun _ _ _ h => h) (Or.inl ⟨by rfl, ?_⟩) (by assumption) ?_
      rotate_left
      · (intro w hSw; (try dsimp only at hSw); go_simp) <;> with_reducible rfl
      (try simp only [Act.put, List.setIfInBounds_toArray, List.set_cons_zero, List.set_cons_succ])
      refine wpAnyH_take (i := 9) (oi := ({ dst := some 47, op := Op.binOp BinOp.rem 3 (Operand.tmp 46) (Operand.const (Value.int IntKind.i64 90)) 3, type := 3, pos := "law.go:297", after := #[{ on := 8, ground := Ground.data }], guard := none } : Oper)) (v := ?_) rfl (by kernel_rfl) (by kernel_rfl) (by kernel_rfl) (fun _ _ _ h => h) (Or.inl ⟨by rfl, ?_⟩) (by assumption) ?_
      rotate_left
      · (intro w hSw; (try dsimp only at hSw); go_simp) <;> with_reducible rfl
      (try simp only [Act.put, List.setIfInBounds_toArray, List.set_cons_zero, List.set_cons_succ])
      refine wpAnyH_take (i := 10) (oi := ({ dst := some 48, op := Op.binOp BinOp.add 3 (Operand.tmp 47) (Operand.const (Value.int IntKind.i64 1)) 3, type := 3, pos := "law.go:297", after := #[{ on := 9, ground := Ground.data }], guard := none } : Oper)) (v := ?_) rfl (by kernel_rfl) (by kernel_rfl) (by kernel_rfl) (fun _ _ _ h => h) (Or.inl ⟨by rfl, ?_⟩) (by assumption) ?_
      rotate_left
      · (intro w hSw; (try dsimp only at hSw); go_simp) <;> with_reducible rfl
      (try simp only [Act.put, List.setIfInBounds_toArray, List.set_cons_zero, List.set_cons_succ])
      refine wpAnyH_take (i := 11) (oi := ({ dst := some 49, op := Op.move (Operand.tmp 0), type := 53, pos := "law.go:297", after := #[], guard := none } : Oper)) (v := ?_) rfl (by kernel_rfl) (by kernel_rfl) (by kernel_rfl) (fun _ _ _ h => h) (Or.inl ⟨by rfl, ?_⟩) (by assumption) ?_
      rotate_left
      · (intro w hSw; (try dsimp only at hSw); go_simp) <;> with_reducible rfl
      (try simp only [Act.put, List.setIfInBounds_toArray, List.set_cons_zero, List.set_cons_succ])
      refine wpAnyH_take (i := 12) (oi := ({ dst := some 50, op := Op.move (Operand.tmp 10), type := 3, pos := "law.go:297", after := #[], guard := none } : Oper)) (v := ?_) rfl (by kernel_rfl) (by kernel_rfl) (by kernel_rfl) (fun _ _ _ h => h) (Or.inl ⟨by rfl, ?_⟩) (by assumption) ?_
      rotate_left
      · (intro w hSw; (try dsimp only at hSw); go_simp) <;> with_reducible rfl
      (try simp only [Act.put, List.setIfInBounds_toArray, List.set_cons_zero, List.set_cons_succ])
      refine wpAnyH_take (i := 13) (oi := ({ dst := some 51, op := Op.indexAddr 53 (Operand.tmp 49) (Operand.tmp 50), type := 0, pos := "law.go:297", after := #[{ on := 11, ground := Ground.data }, { on := 12, ground := Ground.data }], guard := none } : Oper)) (v := ?_) rfl (by kernel_rfl) (by kernel_rfl) (by kernel_rfl) (fun _ _ _ h => h) (Or.inl ⟨by rfl, ?_⟩) (by assumption) ?_
      rotate_left
      · (intro w hSw; (try dsimp only at hSw); go_simp) <;> with_reducible rfl
      (try simp only [Act.put, List.setIfInBounds_toArray, List.set_cons_zero, List.set_cons_succ])
      refine wpAnyH_take (i := 14) (oi := ({ dst := some 52, op := Op.load 5 (Operand.tmp 51), type := 5, pos := "law.go:297", after := #[{ on := 13, ground := Ground.data }], guard := none } : Oper)) (v := ?_) rfl (by kernel_rfl) (by kernel_rfl) (by kernel_rfl) (fun _ _ _ h => h) (Or.inl ⟨by rfl, ?_⟩) (by assumption) ?_
      rotate_left
      · (intro w hSw; (try dsimp only at hSw); go_simp) <;> with_reducible rfl
      (try simp only [Act.put, List.setIfInBounds_toArray, List.set_cons_zero, List.set_cons_succ])
      refine wpAnyH_take (i := 15) (oi := ({ dst := some 53, op := Op.convert 5 3 (Operand.tmp 52), type := 3, pos := "law.go:297", after := #[{ on := 14, ground := Ground.data }], guard := none } : Oper)) (v := ?_) rfl (by kernel_rfl) (by kernel_rfl) (by kernel_rfl) (fun _ _ _ h => h) (Or.inl ⟨by rfl, ?_⟩) (by assumption) ?_
      rotate_left
      · (intro w hSw; (try dsimp only at hSw); go_simp) <;> with_reducible rfl
      (try simp only [Act.put, List.setIfInBounds_toArray, List.set_cons_zero, List.set_cons_succ])
      refine wpAnyH_take (i := 16) (oi := ({ dst := some 54, op := Op.move (Operand.tmp 10), type := 3, pos := "law.go:297", after := #[], guard := none } : Oper)) (v := ?_) rfl (by kernel_rfl) (by kernel_rfl) (by kernel_rfl) (fun _ _ _ h => h) (Or.inl ⟨by rfl, ?_⟩) (by assumption) ?_
      rotate_left
      · (intro w hSw; (try dsimp only at hSw); go_simp) <;> with_reducible rfl
      (try simp only [Act.put, List.setIfInBounds_toArray, List.set_cons_zero, List.set_cons_succ])
      refine wpAnyH_take (i := 17) (oi := ({ dst := some 55, op := Op.convert 3 30 (Operand.tmp 54), type := 30, pos := "law.go:297", after := #[{ on := 16, ground := Ground.data }], guard := none } : Oper)) (v := ?_) rfl (by kernel_rfl) (by kernel_rfl) (by kernel_rfl) (fun _ _ _ h => h) (Or.inl ⟨by rfl, ?_⟩) (by assumption) ?_
      rotate_left
      · (intro w hSw; (try dsimp only at hSw); go_simp) <;> with_reducible rfl
      (try simp only [Act.put, List.setIfInBounds_toArray, List.set_cons_zero, List.set_cons_succ])
      refine wpAnyH_ready (rs := [18]) (by kernel_rfl) (by simp) ?_
      refine AllReadyH.cons (o := ({ dst := some 56, op := Op.call { callee := Callee.value (Operand.func 13), args := #[Operand.tmp 38, Operand.tmp 48, Operand.tmp 53, Operand.tmp 55], argTypes := #[24, 3, 3, 30] }, type := 34, pos := "law.go:297", after := #[{ on := 0, ground := Ground.data }, { on := 10, ground := Ground.data }, { on := 15, ground := Ground.data }, { on := 17, ground := Ground.data }], guard := none } : Oper)) rfl (fun K hK => ?_) ?_
      · go_simp
        rw [HW.out.1, HW.out.2.1, HW.out.2.2]
        refine (cget_any HI.out.1.chk.drew (by have := HR.out; omega) (by rw [HI.out.2.u]; have := HR.out; omega) HI.out.2.inv ((pp : Int) % 90 + 1) (kk : Int) j (by omega) (by omega) (by omega) (by have := HR.out; omega) (by have := HR.out; omega)).mono ?_
        rintro e w4 ⟨rfl, h4, k4⟩
        rw [ST.out.1, ST.out.2.1]
        have H4 := Lib.hid ((HI.out.1.below (Below.refl _ _).drew).call (h4.more (show 30 * j + 30 ≤ 30 * (j + 1) by omega)) k4)
        have HB4 := Lib.hid h4.bel
        clear h4 k4
        go_wp2_with fail
        refine hK.out _ _ ?_ (fun hHeld => ?_)
        · exact HC.out w4 HB4.out
        clear hK K
        (try simp only [Act.put, List.setIfInBounds_toArray, List.set_cons_zero, List.set_cons_succ])
        refine wpAnyH_take (i := 19) (oi := ({ dst := some 37, op := Op.move (Operand.tmp 56), type := 34, pos := "law.go:297", after := #[{ on := 18, ground := Ground.data }], guard := none } : Oper)) (v := ?_) rfl (by kernel_rfl) (by kernel_rfl) (by kernel_rfl) (fun _ _ _ h => h) (Or.inl ⟨by rfl, ?_⟩) (by assumption) ?_
        rotate_left
        · (intro w hSw; (try dsimp only at hSw); go_simp) <;> with_reducible rfl
        (try simp only [Act.put, List.setIfInBounds_toArray, List.set_cons_zero, List.set_cons_succ])
        refine wpAnyH_take (i := 20) (oi := ({ dst := some 57, op := Op.extract (Operand.tmp 37) 0, type := 3, pos := "law.go:297", after := #[{ on := 19, ground := Ground.data }], guard := none } : Oper)) (v := ?_) rfl (by kernel_rfl) (by kernel_rfl) (by kernel_rfl) (fun _ _ _ h => h) (Or.inl ⟨by rfl, ?_⟩) (by assumption) ?_
        rotate_left
        · (intro w hSw; (try dsimp only at hSw); go_simp) <;> with_reducible rfl
        (try simp only [Act.put, List.setIfInBounds_toArray, List.set_cons_zero, List.set_cons_succ])
        refine wpAnyH_take (i := 21) (oi := ({ dst := some 58, op := Op.extract (Operand.tmp 37) 1, type := 3, pos := "law.go:297", after := #[{ on := 19, ground := Ground.data }, { on := 23, ground := Ground.gcOnly Departure.lateStores }], guard := none } : Oper)) (v := ?_) rfl (by kernel_rfl) (by kernel_rfl) (by kernel_rfl) (fun _ _ _ h => h) (Or.inl ⟨by rfl, ?_⟩) (by assumption) ?_
        rotate_left
        · (intro w hSw; (try dsimp only at hSw); go_simp) <;> with_reducible rfl
        (try simp only [Act.put, List.setIfInBounds_toArray, List.set_cons_zero, List.set_cons_succ])
        refine wpAnyH_take (i := 22) (oi := ({ dst := some 59, op := Op.extract (Operand.tmp 37) 2, type := 33, pos := "law.go:297", after := #[{ on := 19, ground := Ground.data }, { on := 24, ground := Ground.gcOnly Departure.lateStores }], guard := none } : Oper)) (v := ?_) rfl (by kernel_rfl) (by kernel_rfl) (by kernel_rfl) (fun _ _ _ h => h) (Or.inl ⟨by rfl, ?_⟩) (by assumption) ?_
        rotate_left
        · (intro w hSw; (try dsimp only at hSw); go_simp) <;> with_reducible rfl
        (try simp only [Act.put, List.setIfInBounds_toArray, List.set_cons_zero, List.set_cons_succ])
        refine wpAnyH_take (i := 23) (oi := ({ dst := some 11, op := Op.assign (Operand.tmp 57), type := 3, pos := "law.go:297", after := #[{ on := 20, ground := Ground.data }, { on := 18, ground := Ground.chain }, { on := 0, ground := Ground.phase }, { on := 1, ground := Ground.phase }, { on := 2, ground := Ground.phase }, { on := 3, ground := Ground.phase }, { on := 4, ground := Ground.phase }, { on := 5, ground := Ground.phase }, { on := 6, ground := Ground.phase }, { on := 7, ground := Ground.phase }, { on := 8, ground := Ground.phase }, { on := 9, ground := Ground.phase }, { on := 10, ground := Ground.phase }, { on := 11, ground := Ground.phase }, { on := 12, ground := Ground.phase }, { on := 13, ground := Ground.phase }, { on := 14, ground := Ground.phase }, { on := 15, ground := Ground.phase }, { on := 16, ground := Ground.phase }, { on := 17, ground := Ground.phase }, { on := 18, ground := Ground.phase }, { on := 19, ground := Ground.phase }, { on := 20, ground := Ground.phase }, { on := 21, ground := Ground.textOnly Departure.lateStores }, { on := 22, ground := Ground.textOnly Departure.lateStores }], guard := none } : Oper)) (v := ?_) rfl (by kernel_rfl) (by kernel_rfl) (by kernel_rfl) (fun _ _ _ h => h) (Or.inl ⟨by rfl, ?_⟩) (by assumption) ?_
        rotate_left
        · (intro w hSw; (try dsimp only at hSw); go_simp) <;> with_reducible rfl
        (try simp only [Act.put, List.setIfInBounds_toArray, List.set_cons_zero, List.set_cons_succ])
        refine wpAnyH_take (i := 24) (oi := ({ dst := some 12, op := Op.assign (Operand.tmp 58), type := 3, pos := "law.go:297", after := #[{ on := 21, ground := Ground.data }, { on := 23, ground := Ground.chain }, { on := 0, ground := Ground.phase }, { on := 1, ground := Ground.phase }, { on := 2, ground := Ground.phase }, { on := 3, ground := Ground.phase }, { on := 4, ground := Ground.phase }, { on := 5, ground := Ground.phase }, { on := 6, ground := Ground.phase }, { on := 7, ground := Ground.phase }, { on := 8, ground := Ground.phase }, { on := 9, ground := Ground.phase }, { on := 10, ground := Ground.phase }, { on := 11, ground := Ground.phase }, { on := 12, ground := Ground.phase }, { on := 13, ground := Ground.phase }, { on := 14, ground := Ground.phase }, { on := 15, ground := Ground.phase }, { on := 16, ground := Ground.phase }, { on := 17, ground := Ground.phase }, { on := 18, ground := Ground.phase }, { on := 19, ground := Ground.phase }, { on := 20, ground := Ground.phase }, { on := 21, ground := Ground.phase }, { on := 22, ground := Ground.textOnly Departure.lateStores }, { on := 23, ground := Ground.phase }], guard := none } : Oper)) (v := ?_) rfl (by kernel_rfl) (by kernel_rfl) (by kernel_rfl) (fun _ _ _ h => h) (Or.inl ⟨by rfl, ?_⟩) (by assumption) ?_
        rotate_left
        · (intro w hSw; (try dsimp only at hSw); go_simp) <;> with_reducible rfl
        (try simp only [Act.put, List.setIfInBounds_toArray, List.set_cons_zero, List.set_cons_succ])
        refine wpAnyH_take (i := 25) (oi := ({ dst := some 13, op := Op.assign (Operand.tmp 59), type := 33, pos := "law.go:297", after := #[{ on := 22, ground := Ground.data }, { on := 24, ground := Ground.chain }, { on := 0, ground := Ground.phase }, { on := 1, ground := Ground.phase }, { on := 2, ground := Ground.phase }, { on := 3, ground := Ground.phase }, { on := 4, ground := Ground.phase }, { on := 5, ground := Ground.phase }, { on := 6, ground := Ground.phase }, { on := 7, ground := Ground.phase }, { on := 8, ground := Ground.phase }, { on := 9, ground := Ground.phase }, { on := 10, ground := Ground.phase }, { on := 11, ground := Ground.phase }, { on := 12, ground := Ground.phase }, { on := 13, ground := Ground.phase }, { on := 14, ground := Ground.phase }, { on := 15, ground := Ground.phase }, { on := 16, ground := Ground.phase }, { on := 17, ground := Ground.phase }, { on := 18, ground := Ground.phase }, { on := 19, ground := Ground.phase }, { on := 20, ground := Ground.phase }, { on := 21, ground := Ground.phase }, { on := 22, ground := Ground.phase }, { on := 23, ground := Ground.phase }, { on := 24, ground := Ground.phase }], guard := none } : Oper)) (v := ?_) rfl (by kernel_rfl) (by kernel_rfl) (by kernel_rfl) (fun _ _ _ h => h) (Or.inl ⟨by rfl, ?_⟩) (by assumption) ?_
        rotate_left
        · (intro w hSw; (try dsimp only at hSw); go_simp) <;> with_reducible rfl
        (try simp only [Act.put, List.setIfInBounds_toArray, List.set_cons_zero, List.set_cons_succ])
        refine wpAnyH_done (by kernel_rfl) ?_ _
        refine NoPanic.normal ?_
        generalize Wid Q wr.drew w4 = Q4 at *
        have g4 := (HC.out w4 HB4.out).1
        obtain ⟨n, hn⟩ : ∃ n, n = getN 3000 Z ((pp : Int) % 90 + 1) := ⟨_, rfl⟩
        have KD := Lib.hid ST.out.2.2
        rw [← hn] at KD ⊢
        clear hn
        have hx1 := HI.out.2.lo
        have hx2 := KD.out.lo
        have hb5 : Below w4.heap.size w4 (w4.alloc (.cells #[.int .i64 n, .int .i64 (kk : Int), .int .u64 (j : Int), .int .u64 0] 39)) := (Below.refl _ _).alloc (Nat.le_refl _) _
        have OWN := Lib.hid (H4.out.below hb5).lh.row
        have SZ := Lib.hid (Nat.le_trans H4.out.chk.bel.size hb5.size)
        obtain ⟨iH, hi, hi0, hi1, hi2⟩ := infoH
        have HIH := Lib.hid (And.intro hi (And.intro hi0 (And.intro hi1 hi2)))
        clear hb5 hi hi0 hi1 hi2
        go_upto_region 18 with (at_builtin; refine wpList_append_lies _ rfl _ _ 54 rfl w.heap.size 39 iH (.agg #[.int .i64 0, .int .i64 0, .int .u64 0, .int .u64 0]) 4 32 Try.underlying54 HIH.out.1 HIH.out.2.1 HIH.out.2.2.1 HIH.out.2.2.2 rfl (by decide) (.slice A j c1) j (hcells hs) rfl OWN.out ⟨w4.heap.size, 0, none⟩ 1 1 (hcells [⟨x, n, kk, j⟩]) rfl rfl (head_cell10 w4 ⟨x, n, kk, j⟩) (hcells_one _) (by omega) (by unfold maxLen; omega) (by omega) SZ.out _ rfl ?_; intro g1 c1' w5 hrow hgr hat hlt5; (have HS := Lib.hid ((H4.out.alloc (.cells #[.int .i64 n, .int .i64 (kk : Int), .int .u64 (j : Int), .int .u64 0] 39)).appA hrow hgr hat hlt5)); clear hrow hgr hat hlt5)
        obtain ⟨i3, hi, hi0, hi1, hi2⟩ := infoI
        have HI3 := Lib.hid (And.intro hi (And.intro hi0 (And.intro hi1 hi2)))
        have hb6 : Below w5.heap.size w5 (w5.alloc (.cells #[.int .i64 x] 3)) := (Below.refl _ _).alloc (Nat.le_refl _) _
        have OWN2 := Lib.hid (HS.out.below hb6).lf.row
        have SZ2 := Lib.hid (Nat.le_trans HS.out.chk.bel.size hb6.size)
        clear hb6 hi hi0 hi1 hi2
        go_wp2_with (at_builtin; refine wpList_append_lies _ rfl _ _ 46 rfl w.heap.size 3 i3 (.int .i64 0) 1 8 Try.underlying46 HI3.out.1 HI3.out.2.1 HI3.out.2.2.1 HI3.out.2.2.2 rfl (by decide) (.slice A2 j c2) j (ints10 (hs.map (·.p))) rfl OWN2.out ⟨w5.heap.size, 0, none⟩ 1 1 (ints10 [x]) rfl rfl (num_cell10 w5 x) (ints10_one _) (by omega) (by unfold maxLen; omega) (by omega) SZ2.out _ rfl ?_; intro g2 c2' w6 hrow hgr hat hlt6; (have HT := Lib.hid ((HS.out.alloc (.cells #[.int .i64 x] 3)).appB hrow hgr hat hlt6)); clear hrow hgr hat hlt6)
        clear hx1 hx2
        have HF := Lib.hid (show KdG w w6 s a b c _ _ (j + 1) (j + 1) c1' c2' (hcells (hs ++ [(⟨x, n, kk, j⟩ : Kh)])) (ints10 ((hs ++ [(⟨x, n, kk, j⟩ : Kh)]).map (·.p))) (Z.get 3000 ((pp : Int) % 90 + 1) kk j) Q4 _ (30 * (j + 1)) from by rw [hcells_append, List.map_append, show ints10 (hs.map (·.p) ++ [(⟨x, n, kk, j⟩ : Kh)].map (·.p)) = ints10 (hs.map (·.p)) ++ ints10 [x] by simp [ints10]]; exact HT.out)
        go_roundw
        case rel => exact ⟨j + 1, x + n, _, _, c1', c2', _, _, _, _, by omega, by go_num, by first | rfl | go_num, rfl, rfl, HF.out, KD.out⟩
        case measure => simp [intOf]; omega
      exact AllReadyH.nil
    · have hjn : j = len0 := by omega
      have HJ := Lib.hid (show j ≤ 20 by have := HL.out; omega)
      have H5 := Lib.hid (show KdG w wr s a b c A A2 j j c1 c2 (hcells hs) (ints10 (hs.map (·.p))) Z Q D 700 ∧ Z.u ≤ 20 from ⟨⟨HI.out.1.chk.more (by have := HJ.out; omega), HI.out.1.lh, HI.out.1.lf, HI.out.1.dA, HI.out.1.dB, HI.out.1.ab⟩, by have := HI.out.2.u; have := HJ.out; omega⟩)
      have KD := Lib.hid HI.out.2
      clear HI hjn
      go_wp2_with fail
      go_loopw [14] (fun i wr => ∃ (t : Nat) (Y : St) (Q D : Nat → Prop), t ≤ j ∧ i = .int .i64 (t : Int) ∧ Hid (KdG w wr s a b c A A2 j j c1 c2 (hcells hs) (ints10 (hs.map (·.p))) Y Q D 700 ∧ Y.u ≤ 20 + t ∧ Y.f = Z.f ∧ Y.l = Z.l)) (fun i _ => j - (intOf i).toNat)
      case atStart => exact ⟨0, Z, Q, D, by omega, rfl, Lib.hid ⟨H5.out.1, H5.out.2, rfl, rfl⟩⟩
      case round =>
        clear H5
        obtain ⟨t, Y, Q, D, ht, rfl, HI⟩ := hrel
        by_cases hlt2 : t < j
        · have htl : t < hs.length := by have := KD.out.len; omega
          obtain ⟨g2, hA2, _⟩ := HI.out.1.lf.cell (j := t) (by simpa using htl)
          subst hA2
          have hm := KD.out.st _ (List.getElem_mem htl)
          have hcl := hcells_at hs t htl
          have HF := Lib.hid (show ∀ (W : World) (Y : St) (Q D : Nat → Prop), KdG w W s a b c A (some ⟨g2, 0, none⟩) j j c1 c2 (hcells hs) (ints10 (hs.map (·.p))) Y Q D 700 → W.cell? ⟨g2, t, none⟩ = some (.int .i64 hs[t].p) from fun W Y Q D h => by
            have := h.first (j := t) (by simpa using htl)
            rwa [List.getElem_map] at this)
          have HH := Lib.hid (show ∀ (W : World) (Y : St) (Q D : Nat → Prop), KdG w W s a b c A (some ⟨g2, 0, none⟩) j j c1 c2 (hcells hs) (ints10 (hs.map (·.p))) Y Q D 700 → ∃ g, A = some ⟨g, 0, none⟩ ∧ W.cell? ⟨g, t * 4, none⟩ = some (.int .i64 hs[t].n) ∧ W.cell? ⟨g, t * 4 + 1, none⟩ = some (.int .i64 (hs[t].k : Int)) ∧ W.cell? ⟨g, t * 4 + 2, none⟩ = some (.int .u64 (hs[t].o : Int)) ∧ W.cell? ⟨g, t * 4 + 3, none⟩ = some (.int .u64 0) from fun W Y Q D h => h.lh.head htl)
          generalize hs[t].p = hp at *
          generalize hs[t].n = hn at *
          generalize hs[t].k = hk at *
          generalize hs[t].o = ho at *
          have HM := Lib.hid (show hp = (hp.toNat : Int) ∧ hp.toNat < 3000 ∧ hn = (hn.toNat : Int) ∧ Stands Y.f hp.toNat hn.toNat hk ho 0 from ⟨by omega, by omega, by omega, by rw [HI.out.2.2.1]; exact hm.2.2.2⟩)
          have HT := Lib.hid (show t < j ∧ j ≤ 20 from ⟨hlt2, HJ.out⟩)
          clear hm hcl
          have GS := Lib.hid (HI.out.1.below (Below.refl _ _).drew)
          have g0 := HF.out _ _ _ _ HI.out.1
          go_upto_region 22 with fail
          refine wp_region_noPanic ?_
          refine wp_region_held_drew (S := fun W => W.cell? ⟨g2, t, none⟩ = some (.int .i64 hp)) (by kernel_rfl) (g0) (fun hHeld => ?_)
          refine wpAnyH_take (i := 0) (oi := ({ dst := some 93, op := Op.move (Operand.tmp 6), type := 24, pos := "law.go:306", after := #[], guard := none } : Oper)) (v := ?_) rfl (by kernel_rfl) (by kernel_rfl) (by kernel_rfl) (fun _ _ _ h => h) (Or.inl ⟨by rfl, ?_⟩) (by assumption) ?_
          rotate_left
          · (intro w hSw; (try dsimp only at hSw); go_simp) <;> with_reducible rfl
          (try simp only [Act.put, List.setIfInBounds_toArray, List.set_cons_zero, List.set_cons_succ])
          refine wpAnyH_take (i := 2) (oi := ({ dst := some 95, op := Op.move (Operand.tmp 9), type := 46, pos := "law.go:306", after := #[], guard := none } : Oper)) (v := ?_) rfl (by kernel_rfl) (by kernel_rfl) (by kernel_rfl) (fun _ _ _ h => h) (Or.inl ⟨by rfl, ?_⟩) (by assumption) ?_
          rotate_left
          · (intro w hSw; (try dsimp only at hSw); go_simp) <;> with_reducible rfl
          (try simp only [Act.put, List.setIfInBounds_toArray, List.set_cons_zero, List.set_cons_succ])
          refine wpAnyH_take (i := 3) (oi := ({ dst := some 96, op := Op.move (Operand.tmp 14), type := 3, pos := "law.go:306", after := #[], guard := none } : Oper)) (v := ?_) rfl (by kernel_rfl) (by kernel_rfl) (by kernel_rfl) (fun _ _ _ h => h) (Or.inl ⟨by rfl, ?_⟩) (by assumption) ?_
          rotate_left
          · (intro w hSw; (try dsimp only at hSw); go_simp) <;> with_reducible rfl
          (try simp only [Act.put, List.setIfInBounds_toArray, List.set_cons_zero, List.set_cons_succ])
          refine wpAnyH_take (i := 4) (oi := ({ dst := some 97, op := Op.indexAddr 46 (Operand.tmp 95) (Operand.tmp 96), type := 0, pos := "law.go:306", after := #[{ on := 2, ground := Ground.data }, { on := 3, ground := Ground.data }], guard := none } : Oper)) (v := ?_) rfl (by kernel_rfl) (by kernel_rfl) (by kernel_rfl) (fun _ _ _ h => h) (Or.inl ⟨by rfl, ?_⟩) (by assumption) ?_
          rotate_left
          · (intro w hSw; (try dsimp only at hSw); go_simp) <;> with_reducible rfl
          (try simp only [Act.put, List.setIfInBounds_toArray, List.set_cons_zero, List.set_cons_succ])
          refine wpAnyH_take (i := 5) (oi := ({ dst := some 98, op := Op.load 3 (Operand.tmp 97), type := 3, pos := "law.go:306", after := #[{ on := 4, ground := Ground.data }], guard := none } : Oper)) (v := ?_) rfl (by kernel_rfl) (by kernel_rfl) (by kernel_rfl) (fun _ _ _ h => h) (Or.inl ⟨by rfl, ?_⟩) (by assumption) ?_
          rotate_left
          · (intro w hSw; (try dsimp only at hSw); go_simp) <;> with_reducible rfl
          (try simp only [Act.put, List.setIfInBounds_toArray, List.set_cons_zero, List.set_cons_succ])
          refine wpAnyH_ready (rs := [1, 10]) (by kernel_rfl) (by simp) ?_
          refine AllReadyH.cons (o := ({ dst := some 94, op := Op.call { callee := Callee.value (Operand.func 11), args := #[Operand.tmp 93], argTypes := #[24] }, type := 26, pos := "law.go:306", after := #[{ on := 0, ground := Ground.data }], guard := none } : Oper)) rfl (fun K hK => ?_) ?_
          · go_simp
            refine (cspace_any GS.out.chk).mono ?_
            rintro e w3 ⟨rfl, b3⟩
            have GS := Lib.hid (GS.out.below b3)
            clear b3
            go_wp2_with fail
            refine hK.out _ _ ?_ (fun hHeld => ?_)
            · exact HF.out _ _ _ _ GS.out
            clear hK K
            (try simp only [Act.put, List.setIfInBounds_toArray, List.set_cons_zero, List.set_cons_succ])
            refine wpAnyH_ready (rs := [6, 10]) (by kernel_rfl) (by simp) ?_
            refine AllReadyH.cons (o := ({ dst := some 99, op := Op.call { callee := Callee.value (Operand.func 14), args := #[Operand.tmp 94, Operand.tmp 98], argTypes := #[26, 3] }, type := 40, pos := "law.go:306", after := #[{ on := 1, ground := Ground.data }, { on := 5, ground := Ground.data }, { on := 1, ground := Ground.chain }], guard := none } : Oper)) rfl (fun K hK => ?_) ?_
            · go_simp
              refine (st_read GS.out.chk.st hp hp.toNat hn.toNat hk ho 0 HM.out.1 HM.out.2.1 HM.out.2.2.2 (by have := HI.out.2.1; have := HT.out; omega)).mono ?_
              rintro e w4 ⟨rfl, h4, k4⟩
              rw [← HM.out.2.2.1]
              have GS := Lib.hid (GS.out.call (GS.out.chk.next h4 k4 (fun x e => e.imp id (fun e => e.1))) k4)
              clear h4 k4
              go_wp2_with fail
              refine hK.out _ _ ?_ (fun hHeld => ?_)
              · exact HF.out _ _ _ _ GS.out
              clear hK K
              (try simp only [Act.put, List.setIfInBounds_toArray, List.set_cons_zero, List.set_cons_succ])
              refine wpAnyH_take (i := 7) (oi := ({ dst := some 92, op := Op.move (Operand.tmp 99), type := 40, pos := "law.go:306", after := #[{ on := 6, ground := Ground.data }], guard := none } : Oper)) (v := ?_) rfl (by kernel_rfl) (by kernel_rfl) (by kernel_rfl) (fun _ _ _ h => h) (Or.inl ⟨by rfl, ?_⟩) (by assumption) ?_
              rotate_left
              · (intro w hSw; (try dsimp only at hSw); go_simp) <;> with_reducible rfl
              (try simp only [Act.put, List.setIfInBounds_toArray, List.set_cons_zero, List.set_cons_succ])
              refine wpAnyH_take (i := 8) (oi := ({ dst := some 100, op := Op.extract (Operand.tmp 92) 0, type := 39, pos := "law.go:306", after := #[{ on := 7, ground := Ground.data }], guard := none } : Oper)) (v := ?_) rfl (by kernel_rfl) (by kernel_rfl) (by kernel_rfl) (fun _ _ _ h => h) (Or.inl ⟨by rfl, ?_⟩) (by assumption) ?_
              rotate_left
              · (intro w hSw; (try dsimp only at hSw); go_simp) <;> with_reducible rfl
              (try simp only [Act.put, List.setIfInBounds_toArray, List.set_cons_zero, List.set_cons_succ])
              refine wpAnyH_take (i := 9) (oi := ({ dst := some 101, op := Op.extract (Operand.tmp 92) 1, type := 33, pos := "law.go:306", after := #[{ on := 7, ground := Ground.data }, { on := 11, ground := Ground.gcOnly Departure.lateStores }], guard := none } : Oper)) (v := ?_) rfl (by kernel_rfl) (by kernel_rfl) (by kernel_rfl) (fun _ _ _ h => h) (Or.inl ⟨by rfl, ?_⟩) (by assumption) ?_
              rotate_left
              · (intro w hSw; (try dsimp only at hSw); go_simp) <;> with_reducible rfl
              (try simp only [Act.put, List.setIfInBounds_toArray, List.set_cons_zero, List.set_cons_succ])
              refine wpAnyH_ready (rs := [10]) (by kernel_rfl) (by simp) ?_
              refine AllReadyH.cons (o := ({ dst := some 15, op := Op.alloc 39, type := 0, pos := "law.go:306", after := #[], guard := none } : Oper)) rfl (fun K hK => ?_) ?_
              · go_simp
                obtain ⟨wy, hwy⟩ : ∃ wy, wy = (w4).alloc (.cells #[.int .i64 0, .int .i64 0, .int .u64 0, .int .u64 0] 39) := ⟨_, rfl⟩
                obtain ⟨y, hy⟩ : ∃ y, y = (w4).heap.size := ⟨_, rfl⟩
                have GN := GS.out.new (.cells #[.int .i64 0, .int .i64 0, .int .u64 0, .int .u64 0] 39)
                have GK := GN.1
                have BX := Box4.new w4 39 (.int .i64 0) (.int .i64 0) (.int .u64 0) (.int .u64 0)
                rw [← hwy] at GK BX
                rw [← hy] at GK BX GN
                have YS := Lib.hid (show Box4 wy y (.int .i64 0) (.int .i64 0) (.int .u64 0) (.int .u64 0) ∧ ¬ Wid Q w3 w4 y ∧ y ≠ s ∧ ¬ rowD A y ∧ ¬ rowD (some ⟨g2, 0, none⟩) y ∧ w.heap.size ≤ y from ⟨BX, GN.2.1, GN.2.2.1, GN.2.2.2.1, GN.2.2.2.2, by rw [hy]; exact GS.out.size⟩)
                have GS := Lib.hid GK
                rw [← hwy]
                try rw [← hy]
                clear GN GK BX hwy hy
                have y0 := YS.out.1.c0
                have y1 := YS.out.1.c1
                have y2 := YS.out.1.c2
                have y3 := YS.out.1.c3
                have z0 := YS.out.1.fz 0
                have z1 := YS.out.1.fz 1
                have z2 := YS.out.1.fz 2
                have z3 := YS.out.1.fz 3
                refine hK.out _ _ ?_ (fun hHeld => ?_)
                · exact HF.out _ _ _ _ GS.out
                clear hK K
                (try simp only [Act.put, List.setIfInBounds_toArray, List.set_cons_zero, List.set_cons_succ])
                refine wpAnyH_ready (rs := [11]) (by kernel_rfl) (by simp) ?_
                refine AllReadyH.cons (o := ({ dst := none, op := Op.store 39 (Operand.tmp 15) (Operand.tmp 100), type := 0, pos := "law.go:306", after := #[{ on := 10, ground := Ground.data }, { on := 8, ground := Ground.data }, { on := 6, ground := Ground.chain }, { on := 0, ground := Ground.phase }, { on := 1, ground := Ground.phase }, { on := 2, ground := Ground.phase }, { on := 3, ground := Ground.phase }, { on := 4, ground := Ground.phase }, { on := 5, ground := Ground.phase }, { on := 6, ground := Ground.phase }, { on := 7, ground := Ground.phase }, { on := 8, ground := Ground.phase }, { on := 9, ground := Ground.textOnly Departure.lateStores }, { on := 10, ground := Ground.phase }], guard := none } : Oper)) rfl (fun K hK => ?_) ?_
                · go_simp
                  have GS := Lib.hid (GS.out.set (.inr rfl) YS.out.2.1 YS.out.2.2.1 YS.out.2.2.2.1 YS.out.2.2.2.2.1 YS.out.2.2.2.2.2 (.int .i64 hn) (.int .i64 (hk : Int)) (.int .u64 (ho : Int)) (.int .u64 0))
                  have YB := Lib.hid (YS.out.1.set (.int .i64 hn) (.int .i64 (hk : Int)) (.int .u64 (ho : Int)) (.int .u64 0))
                  clear y0 y1 y2 y3 z0 z1 z2 z3
                  refine hK.out _ _ ?_ (fun hHeld => ?_)
                  · exact HF.out _ _ _ _ GS.out
                  clear hK K
                  (try simp only [Act.put, List.setIfInBounds_toArray, List.set_cons_zero, List.set_cons_succ])
                  refine wpAnyH_take (i := 12) (oi := ({ dst := some 16, op := Op.assign (Operand.tmp 101), type := 33, pos := "law.go:306", after := #[{ on := 9, ground := Ground.data }, { on := 11, ground := Ground.chain }, { on := 0, ground := Ground.phase }, { on := 1, ground := Ground.phase }, { on := 2, ground := Ground.phase }, { on := 3, ground := Ground.phase }, { on := 4, ground := Ground.phase }, { on := 5, ground := Ground.phase }, { on := 6, ground := Ground.phase }, { on := 7, ground := Ground.phase }, { on := 8, ground := Ground.phase }, { on := 9, ground := Ground.phase }, { on := 10, ground := Ground.phase }, { on := 11, ground := Ground.phase }], guard := none } : Oper)) (v := ?_) rfl (by kernel_rfl) (by kernel_rfl) (by kernel_rfl) (fun _ _ _ h => h) (Or.inl ⟨by rfl, ?_⟩) (by assumption) ?_
                  rotate_left
                  · (intro w hSw; (try dsimp only at hSw); go_simp) <;> with_reducible rfl
                  (try simp only [Act.put, List.setIfInBounds_toArray, List.set_cons_zero, List.set_cons_succ])
                  refine wpAnyH_done (by kernel_rfl) ?_ _
                  refine NoPanic.normal ?_
                  go_wp2_with fail
                  clear g0
                  obtain ⟨gh, hA, d0, d1, d2, d3⟩ := HH.out _ _ _ _ GS.out
                  subst hA
                  have x0 := YB.out.c0
                  have x1 := YB.out.c1
                  have x2 := YB.out.c2
                  have x3 := YB.out.c3
                  have ht20 : t < j := HT.out.1
                  go_wp2_with (go_quiet (fail))
                  have HN := Lib.hid (show Y.u + 1 ≤ 20 + (t + 1) by have := HI.out.2.1; omega)
                  go_roundw
                  case rel => exact ⟨t + 1, { Y with u := Y.u + 1 }, _, _, by omega, by go_num, Lib.hid ⟨GS.out.drewN _, HN.out, HI.out.2.2.1, HI.out.2.2.2⟩⟩
                  case measure => simp [intOf]; omega
                exact AllReadyH.nil
              exact AllReadyH.nil
            refine AllReadyH.cons (o := ({ dst := some 15, op := Op.alloc 39, type := 0, pos := "law.go:306", after := #[], guard := none } : Oper)) rfl (fun K hK => ?_) ?_
            · go_simp
              obtain ⟨wy, hwy⟩ : ∃ wy, wy = (w3).alloc (.cells #[.int .i64 0, .int .i64 0, .int .u64 0, .int .u64 0] 39) := ⟨_, rfl⟩
              obtain ⟨y, hy⟩ : ∃ y, y = (w3).heap.size := ⟨_, rfl⟩
              have GN := GS.out.new (.cells #[.int .i64 0, .int .i64 0, .int .u64 0, .int .u64 0] 39)
              have GK := GN.1
              have BX := Box4.new w3 39 (.int .i64 0) (.int .i64 0) (.int .u64 0) (.int .u64 0)
              rw [← hwy] at GK BX
              rw [← hy] at GK BX GN
              have YS := Lib.hid (show Box4 wy y (.int .i64 0) (.int .i64 0) (.int .u64 0) (.int .u64 0) ∧ ¬ Q y ∧ y ≠ s ∧ ¬ rowD A y ∧ ¬ rowD (some ⟨g2, 0, none⟩) y ∧ w.heap.size ≤ y from ⟨BX, GN.2.1, GN.2.2.1, GN.2.2.2.1, GN.2.2.2.2, by rw [hy]; exact GS.out.size⟩)
              have GS := Lib.hid GK
              rw [← hwy]
              try rw [← hy]
              clear GN GK BX hwy hy
              refine hK.out _ _ ?_ (fun hHeld => ?_)
              · exact HF.out _ _ _ _ GS.out
              clear hK K
              (try simp only [Act.put, List.setIfInBounds_toArray, List.set_cons_zero, List.set_cons_succ])
              refine wpAnyH_ready (rs := [6]) (by kernel_rfl) (by simp) ?_
              refine AllReadyH.cons (o := ({ dst := some 99, op := Op.call { callee := Callee.value (Operand.func 14), args := #[Operand.tmp 94, Operand.tmp 98], argTypes := #[26, 3] }, type := 40, pos := "law.go:306", after := #[{ on := 1, ground := Ground.data }, { on := 5, ground := Ground.data }, { on := 1, ground := Ground.chain }], guard := none } : Oper)) rfl (fun K hK => ?_) ?_
              · go_simp
                refine (st_read GS.out.chk.st hp hp.toNat hn.toNat hk ho 0 HM.out.1 HM.out.2.1 HM.out.2.2.2 (by have := HI.out.2.1; have := HT.out; omega)).mono ?_
                rintro e w4 ⟨rfl, h4, k4⟩
                rw [← HM.out.2.2.1]
                have YS := Lib.hid (show Box4 w4 y (.int .i64 0) (.int .i64 0) (.int .u64 0) (.int .u64 0) ∧ ¬ Wid Q wy w4 y ∧ _ from ⟨YS.out.1.kept k4 YS.out.2.1, fun e => e.elim YS.out.2.1 (fun e => by have := YS.out.1.lt; omega), YS.out.2.2⟩)
                have GS := Lib.hid (GS.out.call (GS.out.chk.next h4 k4 (fun x e => e.imp id (fun e => e.1))) k4)
                clear h4 k4
                go_wp2_with fail
                have y0 := YS.out.1.c0
                have y1 := YS.out.1.c1
                have y2 := YS.out.1.c2
                have y3 := YS.out.1.c3
                have z0 := YS.out.1.fz 0
                have z1 := YS.out.1.fz 1
                have z2 := YS.out.1.fz 2
                have z3 := YS.out.1.fz 3
                refine hK.out _ _ ?_ (fun hHeld => ?_)
                · exact HF.out _ _ _ _ GS.out
                clear hK K
                (try simp only [Act.put, List.setIfInBounds_toArray, List.set_cons_zero, List.set_cons_succ])
                refine wpAnyH_take (i := 7) (oi := ({ dst := some 92, op := Op.move (Operand.tmp 99), type := 40, pos := "law.go:306", after := #[{ on := 6, ground := Ground.data }], guard := none } : Oper)) (v := ?_) rfl (by kernel_rfl) (by kernel_rfl) (by kernel_rfl) (fun _ _ _ h => h) (Or.inl ⟨by rfl, ?_⟩) (by assumption) ?_
                rotate_left
                · (intro w hSw; (try dsimp only at hSw); go_simp) <;> with_reducible rfl
                (try simp only [Act.put, List.setIfInBounds_toArray, List.set_cons_zero, List.set_cons_succ])
                refine wpAnyH_take (i := 8) (oi := ({ dst := some 100, op := Op.extract (Operand.tmp 92) 0, type := 39, pos := "law.go:306", after := #[{ on := 7, ground := Ground.data }], guard := none } : Oper)) (v := ?_) rfl (by kernel_rfl) (by kernel_rfl) (by kernel_rfl) (fun _ _ _ h => h) (Or.inl ⟨by rfl, ?_⟩) (by assumption) ?_
                rotate_left
                · (intro w hSw; (try dsimp only at hSw); go_simp) <;> with_reducible rfl
                (try simp only [Act.put, List.setIfInBounds_toArray, List.set_cons_zero, List.set_cons_succ])
                refine wpAnyH_take (i := 9) (oi := ({ dst := some 101, op := Op.extract (Operand.tmp 92) 1, type := 33, pos := "law.go:306", after := #[{ on := 7, ground := Ground.data }, { on := 11, ground := Ground.gcOnly Departure.lateStores }], guard := none } : Oper)) (v := ?_) rfl (by kernel_rfl) (by kernel_rfl) (by kernel_rfl) (fun _ _ _ h => h) (Or.inl ⟨by rfl, ?_⟩) (by assumption) ?_
                rotate_left
                · (intro w hSw; (try dsimp only at hSw); go_simp) <;> with_reducible rfl
                (try simp only [Act.put, List.setIfInBounds_toArray, List.set_cons_zero, List.set_cons_succ])
                refine wpAnyH_ready (rs := [11]) (by kernel_rfl) (by simp) ?_
                refine AllReadyH.cons (o := ({ dst := none, op := Op.store 39 (Operand.tmp 15) (Operand.tmp 100), type := 0, pos := "law.go:306", after := #[{ on := 10, ground := Ground.data }, { on := 8, ground := Ground.data }, { on := 6, ground := Ground.chain }, { on := 0, ground := Ground.phase }, { on := 1, ground := Ground.phase }, { on := 2, ground := Ground.phase }, { on := 3, ground := Ground.phase }, { on := 4, ground := Ground.phase }, { on := 5, ground := Ground.phase }, { on := 6, ground := Ground.phase }, { on := 7, ground := Ground.phase }, { on := 8, ground := Ground.phase }, { on := 9, ground := Ground.textOnly Departure.lateStores }, { on := 10, ground := Ground.phase }], guard := none } : Oper)) rfl (fun K hK => ?_) ?_
                · go_simp
                  have GS := Lib.hid (GS.out.set (.inr rfl) YS.out.2.1 YS.out.2.2.1 YS.out.2.2.2.1 YS.out.2.2.2.2.1 YS.out.2.2.2.2.2 (.int .i64 hn) (.int .i64 (hk : Int)) (.int .u64 (ho : Int)) (.int .u64 0))
                  have YB := Lib.hid (YS.out.1.set (.int .i64 hn) (.int .i64 (hk : Int)) (.int .u64 (ho : Int)) (.int .u64 0))
                  clear y0 y1 y2 y3 z0 z1 z2 z3
                  refine hK.out _ _ ?_ (fun hHeld => ?_)
                  · exact HF.out _ _ _ _ GS.out
                  clear hK K
                  (try simp only [Act.put, List.setIfInBounds_toArray, List.set_cons_zero, List.set_cons_succ])
                  refine wpAnyH_take (i := 12) (oi := ({ dst := some 16, op := Op.assign (Operand.tmp 101), type := 33, pos := "law.go:306", after := #[{ on := 9, ground := Ground.data }, { on := 11, ground := Ground.chain }, { on := 0, ground := Ground.phase }, { on := 1, ground := Ground.phase }, { on := 2, ground := Ground.phase }, { on := 3, ground := Ground.phase }, { on := 4, ground := Ground.phase }, { on := 5, ground := Ground.phase }, { on := 6, ground := Ground.phase }, { on := 7, ground := Ground.phase }, { on := 8, ground := Ground.phase }, { on := 9, ground := Ground.phase }, { on := 10, ground := Ground.phase }, { on := 11, ground := Ground.phase }], guard := none } : Oper)) (v := ?_) rfl (by kernel_rfl) (by kernel_rfl) (by kernel_rfl) (fun _ _ _ h => h) (Or.inl ⟨by rfl, ?_⟩) (by assumption) ?_
                  rotate_left
                  · (intro w hSw; (try dsimp only at hSw); go_simp) <;> with_reducible rfl
                  (try simp only [Act.put, List.setIfInBounds_toArray, List.set_cons_zero, List.set_cons_succ])
                  refine wpAnyH_done (by kernel_rfl) ?_ _
                  refine NoPanic.normal ?_
                  go_wp2_with fail
                  clear g0
                  obtain ⟨gh, hA, d0, d1, d2, d3⟩ := HH.out _ _ _ _ GS.out
                  subst hA
                  have x0 := YB.out.c0
                  have x1 := YB.out.c1
                  have x2 := YB.out.c2
                  have x3 := YB.out.c3
                  have ht20 : t < j := HT.out.1
                  go_wp2_with (go_quiet (fail))
                  have HN := Lib.hid (show Y.u + 1 ≤ 20 + (t + 1) by have := HI.out.2.1; omega)
                  go_roundw
                  case rel => exact ⟨t + 1, { Y with u := Y.u + 1 }, _, _, by omega, by go_num, Lib.hid ⟨GS.out.drewN _, HN.out, HI.out.2.2.1, HI.out.2.2.2⟩⟩
                  case measure => simp [intOf]; omega
                exact AllReadyH.nil
              exact AllReadyH.nil
            exact AllReadyH.nil
          refine AllReadyH.cons (o := ({ dst := some 15, op := Op.alloc 39, type := 0, pos := "law.go:306", after := #[], guard := none } : Oper)) rfl (fun K hK => ?_) ?_
          · go_simp
            obtain ⟨wy, hwy⟩ : ∃ wy, wy = (wr.alloc (.cells #[.int .i64 0, .int .i64 0, .int .u64 0, .int .u64 0] 39)).drew := ⟨_, rfl⟩
            obtain ⟨y, hy⟩ : ∃ y, y = wr.heap.size := ⟨_, rfl⟩
            have GN := HI.out.1.new (.cells #[.int .i64 0, .int .i64 0, .int .u64 0, .int .u64 0] 39)
            have GK := GN.1.below (Below.refl _ _).drew
            have BX := (Box4.new wr 39 (.int .i64 0) (.int .i64 0) (.int .u64 0) (.int .u64 0)).below (Below.refl _ _).drew
            rw [← hwy] at GK BX
            rw [← hy] at GK BX GN
            have YS := Lib.hid (show Box4 wy y (.int .i64 0) (.int .i64 0) (.int .u64 0) (.int .u64 0) ∧ ¬ Q y ∧ y ≠ s ∧ ¬ rowD A y ∧ ¬ rowD (some ⟨g2, 0, none⟩) y ∧ w.heap.size ≤ y from ⟨BX, GN.2.1, GN.2.2.1, GN.2.2.2.1, GN.2.2.2.2, by rw [hy]; exact GS.out.size⟩)
            have GS := Lib.hid GK
            rw [← hwy]
            try rw [← hy]
            clear GN GK BX hwy hy
            refine hK.out _ _ ?_ (fun hHeld => ?_)
            · exact HF.out _ _ _ _ GS.out
            clear hK K
            (try simp only [Act.put, List.setIfInBounds_toArray, List.set_cons_zero, List.set_cons_succ])
            refine wpAnyH_ready (rs := [1]) (by kernel_rfl) (by simp) ?_
            refine AllReadyH.cons (o := ({ dst := some 94, op := Op.call { callee := Callee.value (Operand.func 11), args := #[Operand.tmp 93], argTypes := #[24] }, type := 26, pos := "law.go:306", after := #[{ on := 0, ground := Ground.data }], guard := none } : Oper)) rfl (fun K hK => ?_) ?_
            · go_simp
              refine (cspace_any GS.out.chk).mono ?_
              rintro e w3 ⟨rfl, b3⟩
              have YS := Lib.hid (show Box4 w3 y (.int .i64 0) (.int .i64 0) (.int .u64 0) (.int .u64 0) ∧ ¬ Q y ∧ _ from ⟨YS.out.1.below b3, YS.out.2⟩)
              have GS := Lib.hid (GS.out.below b3)
              clear b3
              go_wp2_with fail
              refine hK.out _ _ ?_ (fun hHeld => ?_)
              · exact HF.out _ _ _ _ GS.out
              clear hK K
              (try simp only [Act.put, List.setIfInBounds_toArray, List.set_cons_zero, List.set_cons_succ])
              refine wpAnyH_ready (rs := [6]) (by kernel_rfl) (by simp) ?_
              refine AllReadyH.cons (o := ({ dst := some 99, op := Op.call { callee := Callee.value (Operand.func 14), args := #[Operand.tmp 94, Operand.tmp 98], argTypes := #[26, 3] }, type := 40, pos := "law.go:306", after := #[{ on := 1, ground := Ground.data }, { on := 5, ground := Ground.data }, { on := 1, ground := Ground.chain }], guard := none } : Oper)) rfl (fun K hK => ?_) ?_
              · go_simp
                refine (st_read GS.out.chk.st hp hp.toNat hn.toNat hk ho 0 HM.out.1 HM.out.2.1 HM.out.2.2.2 (by have := HI.out.2.1; have := HT.out; omega)).mono ?_
                rintro e w4 ⟨rfl, h4, k4⟩
                rw [← HM.out.2.2.1]
                have YS := Lib.hid (show Box4 w4 y (.int .i64 0) (.int .i64 0) (.int .u64 0) (.int .u64 0) ∧ ¬ Wid Q w3 w4 y ∧ _ from ⟨YS.out.1.kept k4 YS.out.2.1, fun e => e.elim YS.out.2.1 (fun e => by have := YS.out.1.lt; omega), YS.out.2.2⟩)
                have GS := Lib.hid (GS.out.call (GS.out.chk.next h4 k4 (fun x e => e.imp id (fun e => e.1))) k4)
                clear h4 k4
                go_wp2_with fail
                have y0 := YS.out.1.c0
                have y1 := YS.out.1.c1
                have y2 := YS.out.1.c2
                have y3 := YS.out.1.c3
                have z0 := YS.out.1.fz 0
                have z1 := YS.out.1.fz 1
                have z2 := YS.out.1.fz 2
                have z3 := YS.out.1.fz 3
                refine hK.out _ _ ?_ (fun hHeld => ?_)
                · exact HF.out _ _ _ _ GS.out
                clear hK K
                (try simp only [Act.put, List.setIfInBounds_toArray, List.set_cons_zero, List.set_cons_succ])
                refine wpAnyH_take (i := 7) (oi := ({ dst := some 92, op := Op.move (Operand.tmp 99), type := 40, pos := "law.go:306", after := #[{ on := 6, ground := Ground.data }], guard := none } : Oper)) (v := ?_) rfl (by kernel_rfl) (by kernel_rfl) (by kernel_rfl) (fun _ _ _ h => h) (Or.inl ⟨by rfl, ?_⟩) (by assumption) ?_
                rotate_left
                · (intro w hSw; (try dsimp only at hSw); go_simp) <;> with_reducible rfl
                (try simp only [Act.put, List.setIfInBounds_toArray, List.set_cons_zero, List.set_cons_succ])
                refine wpAnyH_take (i := 8) (oi := ({ dst := some 100, op := Op.extract (Operand.tmp 92) 0, type := 39, pos := "law.go:306", after := #[{ on := 7, ground := Ground.data }], guard := none } : Oper)) (v := ?_) rfl (by kernel_rfl) (by kernel_rfl) (by kernel_rfl) (fun _ _ _ h => h) (Or.inl ⟨by rfl, ?_⟩) (by assumption) ?_
                rotate_left
                · (intro w hSw; (try dsimp only at hSw); go_simp) <;> with_reducible rfl
                (try simp only [Act.put, List.setIfInBounds_toArray, List.set_cons_zero, List.set_cons_succ])
                refine wpAnyH_take (i := 9) (oi := ({ dst := some 101, op := Op.extract (Operand.tmp 92) 1, type := 33, pos := "law.go:306", after := #[{ on := 7, ground := Ground.data }, { on := 11, ground := Ground.gcOnly Departure.lateStores }], guard := none } : Oper)) (v := ?_) rfl (by kernel_rfl) (by kernel_rfl) (by kernel_rfl) (fun _ _ _ h => h) (Or.inl ⟨by rfl, ?_⟩) (by assumption) ?_
                rotate_left
                · (intro w hSw; (try dsimp only at hSw); go_simp) <;> with_reducible rfl
                (try simp only [Act.put, List.setIfInBounds_toArray, List.set_cons_zero, List.set_cons_succ])
                refine wpAnyH_ready (rs := [11]) (by kernel_rfl) (by simp) ?_
                refine AllReadyH.cons (o := ({ dst := none, op := Op.store 39 (Operand.tmp 15) (Operand.tmp 100), type := 0, pos := "law.go:306", after := #[{ on := 10, ground := Ground.data }, { on := 8, ground := Ground.data }, { on := 6, ground := Ground.chain }, { on := 0, ground := Ground.phase }, { on := 1, ground := Ground.phase }, { on := 2, ground := Ground.phase }, { on := 3, ground := Ground.phase }, { on := 4, ground := Ground.phase }, { on := 5, ground := Ground.phase }, { on := 6, ground := Ground.phase }, { on := 7, ground := Ground.phase }, { on := 8, ground := Ground.phase }, { on := 9, ground := Ground.textOnly Departure.lateStores }, { on := 10, ground := Ground.phase }], guard := none } : Oper)) rfl (fun K hK => ?_) ?_
                · go_simp
                  have GS := Lib.hid (GS.out.set (.inr rfl) YS.out.2.1 YS.out.2.2.1 YS.out.2.2.2.1 YS.out.2.2.2.2.1 YS.out.2.2.2.2.2 (.int .i64 hn) (.int .i64 (hk : Int)) (.int .u64 (ho : Int)) (.int .u64 0))
                  have YB := Lib.hid (YS.out.1.set (.int .i64 hn) (.int .i64 (hk : Int)) (.int .u64 (ho : Int)) (.int .u64 0))
                  clear y0 y1 y2 y3 z0 z1 z2 z3
                  refine hK.out _ _ ?_ (fun hHeld => ?_)
                  · exact HF.out _ _ _ _ GS.out
                  clear hK K
                  (try simp only [Act.put, List.setIfInBounds_toArray, List.set_cons_zero, List.set_cons_succ])
                  refine wpAnyH_take (i := 12) (oi := ({ dst := some 16, op := Op.assign (Operand.tmp 101), type := 33, pos := "law.go:306", after := #[{ on := 9, ground := Ground.data }, { on := 11, ground := Ground.chain }, { on := 0, ground := Ground.phase }, { on := 1, ground := Ground.phase }, { on := 2, ground := Ground.phase }, { on := 3, ground := Ground.phase }, { on := 4, ground := Ground.phase }, { on := 5, ground := Ground.phase }, { on := 6, ground := Ground.phase }, { on := 7, ground := Ground.phase }, { on := 8, ground := Ground.phase }, { on := 9, ground := Ground.phase }, { on := 10, ground := Ground.phase }, { on := 11, ground := Ground.phase }], guard := none } : Oper)) (v := ?_) rfl (by kernel_rfl) (by kernel_rfl) (by kernel_rfl) (fun _ _ _ h => h) (Or.inl ⟨by rfl, ?_⟩) (by assumption) ?_
                  rotate_left
                  · (intro w hSw; (try dsimp only at hSw); go_simp) <;> with_reducible rfl
                  (try simp only [Act.put, List.setIfInBounds_toArray, List.set_cons_zero, List.set_cons_succ])
                  refine wpAnyH_done (by kernel_rfl) ?_ _
                  refine NoPanic.normal ?_
                  go_wp2_with fail
                  clear g0
                  obtain ⟨gh, hA, d0, d1, d2, d3⟩ := HH.out _ _ _ _ GS.out
                  subst hA
                  have x0 := YB.out.c0
                  have x1 := YB.out.c1
                  have x2 := YB.out.c2
                  have x3 := YB.out.c3
                  have ht20 : t < j := HT.out.1
                  go_wp2_with (go_quiet (fail))
                  have HN := Lib.hid (show Y.u + 1 ≤ 20 + (t + 1) by have := HI.out.2.1; omega)
                  go_roundw
                  case rel => exact ⟨t + 1, { Y with u := Y.u + 1 }, _, _, by omega, by go_num, Lib.hid ⟨GS.out.drewN _, HN.out, HI.out.2.2.1, HI.out.2.2.2⟩⟩
                  case measure => simp [intOf]; omega
                exact AllReadyH.nil
              exact AllReadyH.nil
            exact AllReadyH.nil
          exact AllReadyH.nil
        · have htj : t = j := by omega
          have HE := Lib.hid (show Chk D w wr s a b c 3000 Y Q 700 ∧ Y.l = [⟨x, 3000 - x⟩] from ⟨HI.out.1.chk, HI.out.2.2.2.trans KD.out.line⟩)
          have hx := KD.out.lo
          have hj20 := HJ.out
          clear HI htj
          go_wp2_with fail
          clear hlt2
          refine (cfree_any HE.out.1).mono ?_
          rintro e w5 ⟨rfl, b5⟩
          rw [HE.out.2, show M.total [⟨x, 3000 - x⟩] = 3000 - x by simp [M.total], show ([⟨x, 3000 - x⟩] : List M.R).length = 1 from rfl]
          have H6 := Lib.hid (below_call HE.out.1.bel b5)
          clear b5 HE
          go_wp2_with fail
          go_ret
          exact ⟨rfl, H6.out⟩

/-! The row's step. -/
set_option maxRecDepth 100000 in
theorem lifted (os : Os) (started : os.Started) (H : Type) (enc : TypeId × Value → H) :
    ReturnsInHanded {} Try.checked os 8 .any (Rows.chunkKindsSpec.pre6 enc Try.prog Try.f8 Rows.chunkKindsRow.domain false) (Rows.chunkKindsSpec.post enc Try.prog Try.f8 false true false false) := by
  refine returnsInHanded_of_change (C := Try.checked) own started (by kernel_rfl) Try.func8
    (ChangeSpec.witness6 (enc := enc) (C := Try.checked) false ⟨#[], #[.slice none 0 0, .slice none 0 0], []⟩ 8 (by kernel_rfl) (by kernel_rfl) (by kernel_rfl) (by kernel_rfl)) ?_
  intro W base args ds gs before hval0 hW hcnd _
  have hval : ∀ (j : Nat) t v, Try.f8.params[j]? = some t → args[j]? = some v → Value.okWide Try.prog W .any base t v := hval0
  have hW' := hW
  obtain ⟨p, q, hA0, hV, rfl, hfz, hnd⟩ := hW
  have hA : DataW.TrodAll enc Try.prog W 0 (fun _ => true) true Try.f8.params.toList args.toList ds p := hA0
  rw [Try.params8] at hA hval
  obtain ⟨v0, vs0, d0, ds0, p0, q0, hargs, rfl, rfl, h0, r0⟩ := trodAll_cons hA
  obtain ⟨v1, vs1, d1, ds1, p1, q1, rfl, rfl, rfl, h1, r1⟩ := trodAll_cons r0
  obtain ⟨rfl, rfl, rfl⟩ := trodAll_nil r1
  obtain rfl : args = #[v0, v1] := by cases args; simp_all
  obtain ⟨rfl, rfl⟩ := trodVars_none hV
  obtain ⟨a0, len0, cap0, rfl⟩ := okWide_slice Try.underlying53 (hval 0 53 v0 rfl rfl)
  have k0 := h0
  have lt0 : ∀ x ∈ p0, x.block < W.heap.size := by obtain ⟨m, hm⟩ := k0; exact DataW.trod_lt m _ _ _ hm
  obtain ⟨z0, w0⟩ : ∃ zs, IsRow .u8 W a0 len0 cap0 zs := by
    obtain ⟨fuel, hf⟩ := h0
    rcases open_ints Try.underlying53 Try.underlying5 (by kernel_rfl) hf with ⟨hcs, _⟩ | ⟨x, l, c, zs, hcs, _, hl, hm, hz, _, hcell, hwz⟩
    · simp [Value.cells] at hcs
      obtain ⟨rfl, rfl, rfl⟩ := hcs
      exact ⟨[], .inl ⟨rfl, rfl, rfl, rfl⟩⟩
    · simp [Value.cells] at hcs
      obtain ⟨rfl, rfl, rfl⟩ := hcs
      exact ⟨zs, .inr ⟨_, rfl, hl, hm, by simpa using hz, hcell, hwz⟩⟩
  obtain ⟨a1, len1, cap1, rfl⟩ := okWide_slice Try.underlying53 (hval 1 53 v1 rfl rfl)
  have k1 := h1
  have lt1 : ∀ x ∈ p1, x.block < W.heap.size := by obtain ⟨m, hm⟩ := k1; exact DataW.trod_lt m _ _ _ hm
  obtain ⟨z1, w1⟩ : ∃ zs, IsRow .u8 W a1 len1 cap1 zs := by
    obtain ⟨fuel, hf⟩ := h1
    rcases open_ints Try.underlying53 Try.underlying5 (by kernel_rfl) hf with ⟨hcs, _⟩ | ⟨x, l, c, zs, hcs, _, hl, hm, hz, _, hcell, hwz⟩
    · simp [Value.cells] at hcs
      obtain ⟨rfl, rfl, rfl⟩ := hcs
      exact ⟨[], .inl ⟨rfl, rfl, rfl, rfl⟩⟩
    · simp [Value.cells] at hcs
      obtain ⟨rfl, rfl, rfl⟩ := hcs
      exact ⟨zs, .inr ⟨_, rfl, hl, hm, by simpa using hz, hcell, hwz⟩⟩
  clear hA0 hval0
  refine (walk a0 len0 cap0 z0 a1 len1 cap1 z1 W w0 w1).mono fun e W' ⟨he, bel⟩ => ?_
  subst he
  exact ⟨_, rfl, _, _, _, [], _, [], hW', trodAll_mk1 (shut_bool Try.underlying4 _), (trodAll_cons_mk (Below.trod laidOut (by kernel_rfl) (of_decide_eq_true (by kernel_rfl)) k0 bel lt0) (trodAll_cons_mk (Below.trod laidOut (by kernel_rfl) (of_decide_eq_true (by kernel_rfl)) k1 bel lt1) trodAll_mk0)), rfl, bel.frame _, fun h => by cases h⟩

theorem over : Rows.chunkKindsRow.holds Try.pinned (OpenSpec.ofChange Rows.chunkKindsSpec) :=
  OpenClaim.holds_of_wide 8 Try.f8 rfl rfl rfl rfl rfl rfl rfl ⟨rfl, rfl, rfl, rfl, rfl⟩ rfl rfl rfl rfl rfl (by kernel_rfl) Try.func8 (by kernel_rfl)
    (of_decide_eq_true (by kernel_rfl)) (by unfold Func.isWrapper; first | (rw [if_pos (by decide +kernel)]; kernel_rfl) | (rw [if_neg (by decide +kernel)]; exact ⟨rfl, rfl⟩))
    (fun os started H enc _ => lifted os started H enc)

/-- The statement. -/
theorem proved : Rows.ChunkKindsSaid := over
#print axioms proved
end Go.Proofs.Ytmboibipabkhaaa.chunkKinds
