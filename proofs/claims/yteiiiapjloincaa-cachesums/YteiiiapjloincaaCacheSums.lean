/-
  CacheSums is true whatever the input: all that are kept have as many pages as is told, are in the order of classes, and are as many as each class tells, and cleared there is none; no conditions.
-/
import Derived.Test.YteiiiapjloincaaRows
import Derived.WalkKit
import Derived.ProofKit
import Derived.OpenShut
import Derived.ShutString
import Derived.ChangeOld
import Derived.Below
import Derived.Test.YteiiiapjloincaaArg9
import Derived.Test.YteiiiapjloincaaU9
namespace Go.Proofs.Yteiiiapjloincaa.cacheSums
open Go.ChangeShapes Go.WideShapes Go.ChangeAt Go.RowKit
set_option linter.unusedVariables false

theorem own : ownKnob Try.prog.godebug = none := by kernel_rfl

/-! The walk. -/
set_option maxRecDepth 20000 in
set_option maxHeartbeats 20000000 in
theorem walk (a0 : Option Addr) (len0 cap0 : Nat) (w : World) (w0 : IsActs w a0 len0) :
    Calls Try.prog 5 #[.slice a0 len0 cap0] w fun e w' => e = .returned (.bool true) ∧ Below w.heap.size w w' := by
  obtain ⟨hl0, acts, hla, ha⟩ := w0
  have HA := Lib.hid (And.intro hla ha)
  clear hla ha
  go_enter Try.func5, Try.ntmps5
  go_wp2_with fail
  refine (awake_any _).mono ?_
  rintro e w1 ⟨rfl, b1⟩
  have B1 := Lib.hid b1
  clear b1
  by_cases h80 : 80 < len0
  · have d1 : decide ((80 : Int) < (len0 : Int)) = true := by simp; omega
    clear h80
    go_wp2_with fail
    go_ret
    exact ⟨rfl, B1.out⟩
  have d1 : decide ((80 : Int) < (len0 : Int)) = false := by simp; omega
  go_wp2_with fail
  refine (k_new B1.out).mono ?_
  rintro e w2 ⟨g, rfl, k2, b2, hg2⟩
  have K2 := Lib.hid k2
  clear k2 b2 hg2
  go_wp2_with fail
  go_loopw [5] (fun i wr => ∃ (m : Nat) (f : M.Ky), m ≤ len0 ∧ i = .int .i64 (m : Int) ∧ Kp w wr g f) (fun i _ => len0 - (intOf i).toNat)
  case atStart => exact ⟨0, _, by omega, rfl, K2.out⟩
  case round =>
    obtain ⟨m, f, hm, rfl, hs⟩ := hrel
    have HS := Lib.hid hs
    clear hs K2
    by_cases hlt : m < len0
    · have hkl : m < acts.length := by have := HA.out.1; omega
      obtain ⟨bl, o, rfl, hc⟩ := HA.out.2 (by omega)
      have hkk := hc m hkl
      obtain ⟨d, hd⟩ : ∃ d, d = acts[m].d := ⟨_, rfl⟩
      obtain ⟨c, hce⟩ : ∃ c, c = acts[m].c := ⟨_, rfl⟩
      obtain ⟨p, hpe⟩ : ∃ p, p = acts[m].p := ⟨_, rfl⟩
      have HK := Lib.hid (show ∀ W, Below w.heap.size w W → W.cell? ⟨bl, o + m * 3 + 1, none⟩ = some (.int .i64 c) ∧ W.cell? ⟨bl, o + m * 3 + 2, none⟩ = some (.int .i64 p) from fun W hW => by
        have := hkk.keep hW
        rw [hce, hpe]
        exact ⟨this.c1, this.c2⟩)
      have HK0 := Lib.hid (show ∀ W, Below w.heap.size w W → W.cell? ⟨bl, o + m * 3, none⟩ = some (.int .u8 (d : Int)) from fun W hW => by
        have := hkk.keep hW
        rw [hd]
        exact this.c0)
      have hd8 : d < 256 := by rw [hd]; exact hkk.d8
      have c0 := HK0.out _ HS.out.bel
      have c1 := (HK.out _ HS.out.bel).1
      have c2 := (HK.out _ HS.out.bel).2
      clear hc hkk hd hce hpe hkl
      by_cases hd0 : d = 0
      · subst hd0
        go_wp2_with fail
        clear c0
        refine wp_region_noPanic ?_
        refine wp_region_held_drew (S := fun W => W.cell? ⟨bl, o + m * 3 + 1, none⟩ = some (.int .i64 c) ∧ W.cell? ⟨bl, o + m * 3 + 2, none⟩ = some (.int .i64 p)) (by kernel_rfl) (⟨c1, c2⟩) (fun hHeld => ?_)
        refine wpAnyH_take (i := 0) (oi := ({ dst := some 31, op := Op.move (Operand.tmp 4), type := 24, pos := "law.go:126", after := #[], guard := none } : Oper)) (v := ?_) rfl (by kernel_rfl) (by kernel_rfl) (by kernel_rfl) (fun _ _ _ h => h) (Or.inl ⟨by rfl, ?_⟩) (by assumption) ?_
        rotate_left
        · (intro w hSw; (try dsimp only at hSw); go_simp) <;> with_reducible rfl
        (try simp only [Act.put, List.setIfInBounds_toArray, List.set_cons_zero, List.set_cons_succ])
        refine wpAnyH_take (i := 1) (oi := ({ dst := some 32, op := Op.move (Operand.tmp 0), type := 22, pos := "law.go:126", after := #[], guard := none } : Oper)) (v := ?_) rfl (by kernel_rfl) (by kernel_rfl) (by kernel_rfl) (fun _ _ _ h => h) (Or.inl ⟨by rfl, ?_⟩) (by assumption) ?_
        rotate_left
        · (intro w hSw; (try dsimp only at hSw); go_simp) <;> with_reducible rfl
        (try simp only [Act.put, List.setIfInBounds_toArray, List.set_cons_zero, List.set_cons_succ])
        refine wpAnyH_take (i := 2) (oi := ({ dst := some 33, op := Op.move (Operand.tmp 5), type := 3, pos := "law.go:126", after := #[], guard := none } : Oper)) (v := ?_) rfl (by kernel_rfl) (by kernel_rfl) (by kernel_rfl) (fun _ _ _ h => h) (Or.inl ⟨by rfl, ?_⟩) (by assumption) ?_
        rotate_left
        · (intro w hSw; (try dsimp only at hSw); go_simp) <;> with_reducible rfl
        (try simp only [Act.put, List.setIfInBounds_toArray, List.set_cons_zero, List.set_cons_succ])
        refine wpAnyH_take (i := 3) (oi := ({ dst := some 34, op := Op.indexAddr 22 (Operand.tmp 32) (Operand.tmp 33), type := 0, pos := "law.go:126", after := #[{ on := 1, ground := Ground.data }, { on := 2, ground := Ground.data }], guard := none } : Oper)) (v := ?_) rfl (by kernel_rfl) (by kernel_rfl) (by kernel_rfl) (fun _ _ _ h => h) (Or.inl ⟨by rfl, ?_⟩) (by assumption) ?_
        rotate_left
        · (intro w hSw; (try dsimp only at hSw); go_simp) <;> with_reducible rfl
        (try simp only [Act.put, List.setIfInBounds_toArray, List.set_cons_zero, List.set_cons_succ])
        refine wpAnyH_take (i := 4) (oi := ({ dst := some 35, op := Op.fieldAddr 34 (Operand.tmp 34) 1, type := 0, pos := "law.go:126", after := #[{ on := 3, ground := Ground.data }], guard := none } : Oper)) (v := ?_) rfl (by kernel_rfl) (by kernel_rfl) (by kernel_rfl) (fun _ _ _ h => h) (Or.inl ⟨by rfl, ?_⟩) (by assumption) ?_
        rotate_left
        · (intro w hSw; (try dsimp only at hSw); go_simp) <;> with_reducible rfl
        (try simp only [Act.put, List.setIfInBounds_toArray, List.set_cons_zero, List.set_cons_succ])
        refine wpAnyH_take (i := 5) (oi := ({ dst := some 36, op := Op.load 3 (Operand.tmp 35), type := 3, pos := "law.go:126", after := #[{ on := 4, ground := Ground.data }], guard := none } : Oper)) (v := ?_) rfl (by kernel_rfl) (by kernel_rfl) (by kernel_rfl) (fun _ _ _ h => h) (Or.inl ⟨by rfl, ?_⟩) (by assumption) ?_
        rotate_left
        · (intro w hSw; (try dsimp only at hSw); go_simp) <;> with_reducible rfl
        (try simp only [Act.put, List.setIfInBounds_toArray, List.set_cons_zero, List.set_cons_succ])
        refine wpAnyH_take (i := 6) (oi := ({ dst := some 37, op := Op.move (Operand.tmp 0), type := 22, pos := "law.go:126", after := #[], guard := none } : Oper)) (v := ?_) rfl (by kernel_rfl) (by kernel_rfl) (by kernel_rfl) (fun _ _ _ h => h) (Or.inl ⟨by rfl, ?_⟩) (by assumption) ?_
        rotate_left
        · (intro w hSw; (try dsimp only at hSw); go_simp) <;> with_reducible rfl
        (try simp only [Act.put, List.setIfInBounds_toArray, List.set_cons_zero, List.set_cons_succ])
        refine wpAnyH_take (i := 7) (oi := ({ dst := some 38, op := Op.move (Operand.tmp 5), type := 3, pos := "law.go:126", after := #[], guard := none } : Oper)) (v := ?_) rfl (by kernel_rfl) (by kernel_rfl) (by kernel_rfl) (fun _ _ _ h => h) (Or.inl ⟨by rfl, ?_⟩) (by assumption) ?_
        rotate_left
        · (intro w hSw; (try dsimp only at hSw); go_simp) <;> with_reducible rfl
        (try simp only [Act.put, List.setIfInBounds_toArray, List.set_cons_zero, List.set_cons_succ])
        refine wpAnyH_take (i := 8) (oi := ({ dst := some 39, op := Op.indexAddr 22 (Operand.tmp 37) (Operand.tmp 38), type := 0, pos := "law.go:126", after := #[{ on := 6, ground := Ground.data }, { on := 7, ground := Ground.data }], guard := none } : Oper)) (v := ?_) rfl (by kernel_rfl) (by kernel_rfl) (by kernel_rfl) (fun _ _ _ h => h) (Or.inl ⟨by rfl, ?_⟩) (by assumption) ?_
        rotate_left
        · (intro w hSw; (try dsimp only at hSw); go_simp) <;> with_reducible rfl
        (try simp only [Act.put, List.setIfInBounds_toArray, List.set_cons_zero, List.set_cons_succ])
        refine wpAnyH_take (i := 9) (oi := ({ dst := some 40, op := Op.fieldAddr 34 (Operand.tmp 39) 2, type := 0, pos := "law.go:126", after := #[{ on := 8, ground := Ground.data }], guard := none } : Oper)) (v := ?_) rfl (by kernel_rfl) (by kernel_rfl) (by kernel_rfl) (fun _ _ _ h => h) (Or.inl ⟨by rfl, ?_⟩) (by assumption) ?_
        rotate_left
        · (intro w hSw; (try dsimp only at hSw); go_simp) <;> with_reducible rfl
        (try simp only [Act.put, List.setIfInBounds_toArray, List.set_cons_zero, List.set_cons_succ])
        refine wpAnyH_take (i := 10) (oi := ({ dst := some 41, op := Op.load 3 (Operand.tmp 40), type := 3, pos := "law.go:126", after := #[{ on := 9, ground := Ground.data }], guard := none } : Oper)) (v := ?_) rfl (by kernel_rfl) (by kernel_rfl) (by kernel_rfl) (fun _ _ _ h => h) (Or.inl ⟨by rfl, ?_⟩) (by assumption) ?_
        rotate_left
        · (intro w hSw; (try dsimp only at hSw); go_simp) <;> with_reducible rfl
        (try simp only [Act.put, List.setIfInBounds_toArray, List.set_cons_zero, List.set_cons_succ])
        refine wpAnyH_ready (rs := [11]) (by kernel_rfl) (by simp) ?_
        refine AllReadyH.cons (o := ({ dst := some 42, op := Op.call { callee := Callee.value (Operand.func 11), args := #[Operand.tmp 31, Operand.tmp 36, Operand.tmp 41], argTypes := #[24, 3, 3] }, type := 4, pos := "law.go:126", after := #[{ on := 0, ground := Ground.data }, { on := 5, ground := Ground.data }, { on := 10, ground := Ground.data }], guard := none } : Oper)) rfl (fun K hK => ?_) ?_
        · go_simp
          refine (k_push HS.out.drew c p).mono ?_
          rintro e w4 ⟨rfl, k4, _⟩
          have K4 := Lib.hid k4
          have c0 := HK0.out _ k4.bel
          clear k4
          go_wp2_with fail
          refine hK.out _ _ ?_ (fun hHeld => ?_)
          · exact HK.out _ K4.out.bel
          clear hK K
          (try simp only [Act.put, List.setIfInBounds_toArray, List.set_cons_zero, List.set_cons_succ])
          refine wpAnyH_done (by kernel_rfl) ?_ _
          refine NoPanic.normal ?_
          go_wp2_with fail
          go_roundw
          case rel => exact ⟨m + 1, _, by omega, by go_num, K4.out⟩
          case measure => simp [intOf]; omega
        exact AllReadyH.nil
      · by_cases hd1 : d = 1
        · subst hd1
          clear hd0
          go_wp2_with fail
          refine (k_pop HS.out c).mono ?_
          rintro e w4 ⟨rfl, k4, _⟩
          have K4 := Lib.hid k4
          clear k4
          go_wp2_with fail
          go_roundw
          case rel => exact ⟨m + 1, _, by omega, by go_num, K4.out⟩
          case measure => simp [intOf]; omega
        · have z0 : ((d : Int) == 0) = false := by simp; omega
          have z1 : ((d : Int) == 1) = false := by simp; omega
          clear hd0 hd1
          go_wp2_with fail
          go_roundw
          case rel => exact ⟨m + 1, _, by omega, by go_num, HS.out⟩
          case measure => simp [intOf]; omega
    · obtain ⟨l, hl⟩ : ∃ l, l = M.all f := ⟨_, rfl⟩
      go_wp2_with fail
      refine (k_all HS.out).mono ?_
      rintro e w5 ⟨ga, z, rfl, hz, hz28, hr, hga, hb5⟩
      rw [← hl] at hz hr
      have K5 := Lib.hid (HS.out.below hb5)
      have R5 := Lib.hid (And.intro hr (And.intro hz hl))
      have CE := Lib.hid (show ∀ W, Below w5.heap.size w5 W → ∀ j (hj : j < l.length), W.cell? ⟨ga, j * 2 + 1, none⟩ = some (.int .i64 l[j].n) from fun W hW j hj => by
        obtain ⟨bl, o, e, hcc⟩ := hr (by omega)
        injection e with e
        injection e with e1 e2
        subst e1 e2
        have := (hcc j hj).2
        rw [Nat.zero_add] at this
        exact (hW.cell (lt_of_cell this)).trans this)
      have SM := Lib.hid (show ∀ r ∈ l, 0 ≤ r.n ∧ r.n ≤ 64 from fun r hr => M.all_small f (hl ▸ hr))
      clear hr hz hl hga hb5 HS
      go_wp2_with fail
      go_loopw [7, 8] (fun n i wr => ∃ j : Nat, j ≤ z ∧ i = .int .i64 (j : Int) ∧ n = .int .i64 (M.total (l.take j)) ∧ Below w5.heap.size w5 wr) (fun _ i _ => z - (intOf i).toNat)
      case atStart => exact ⟨0, by omega, rfl, rfl, Below.refl _ _⟩
      case round =>
        obtain ⟨j, hj, rfl, rfl, hb⟩ := hrel
        have HB := Lib.hid hb
        clear hb
        by_cases hlj : j < z
        · have hjl : j < l.length := by have := R5.out.2.1; omega
          have ts := M.total_take_succ l j hjl
          have bt := M.total_small l SM.out j (by omega)
          have ba := SM.out l[j] (List.getElem_mem _)
          have c1 := CE.out _ HB.out j hjl
          obtain ⟨t, ht⟩ : ∃ t, M.total (l.take j) = t := ⟨_, rfl⟩
          obtain ⟨a, ha⟩ : ∃ a, l[j].n = a := ⟨_, rfl⟩
          rw [ha] at c1 ts ba
          rw [ht] at ts bt
          rw [ht]
          have TS := Lib.hid ts
          have wt : wrap64 (t + a) = t + a := by unfold wrap64; omega
          rcases Nat.eq_zero_or_pos j with h0 | h0
          · subst h0
            clear ts bt ba ht ha
            go_wp2_with fail
            refine wp_region_noPanic ?_
            refine wp_region_held_drew (S := fun _ => True) (by kernel_rfl) (trivial) (fun hHeld => ?_)
            refine wpAnyH_take (i := 0) (oi := ({ dst := some 71, op := Op.move (Operand.tmp 8), type := 3, pos := "law.go:136", after := #[], guard := none } : Oper)) (v := ?_) rfl (by kernel_rfl) (by kernel_rfl) (by kernel_rfl) (fun _ _ _ h => h) (Or.inl ⟨by rfl, ?_⟩) (by assumption) ?_
            rotate_left
            · (intro w hSw; (try dsimp only at hSw); go_simp) <;> with_reducible rfl
            (try simp only [Act.put, List.setIfInBounds_toArray, List.set_cons_zero, List.set_cons_succ])
            refine wpAnyH_take (i := 1) (oi := ({ dst := some 72, op := Op.binOp BinOp.gtr 3 (Operand.tmp 71) (Operand.const (Value.int IntKind.i64 0)) 3, type := 4, pos := "law.go:136", after := #[{ on := 0, ground := Ground.data }], guard := none } : Oper)) (v := ?_) rfl (by kernel_rfl) (by kernel_rfl) (by kernel_rfl) (fun _ _ _ h => h) (Or.inl ⟨by rfl, ?_⟩) (by assumption) ?_
            rotate_left
            · (intro w hSw; (try dsimp only at hSw); go_simp) <;> with_reducible rfl
            (try simp only [Act.put, List.setIfInBounds_toArray, List.set_cons_zero, List.set_cons_succ])
            refine wpAnyH_take (i := 2) (oi := ({ dst := some 73, op := Op.move (Operand.tmp 72), type := 4, pos := "law.go:136", after := #[{ on := 1, ground := Ground.data }], guard := none } : Oper)) (v := ?_) rfl (by kernel_rfl) (by kernel_rfl) (by kernel_rfl) (fun _ _ _ h => h) (Or.inl ⟨by rfl, ?_⟩) (by assumption) ?_
            rotate_left
            · (intro w hSw; (try dsimp only at hSw); go_simp) <;> with_reducible rfl
            (try simp only [Act.put, List.setIfInBounds_toArray, List.set_cons_zero, List.set_cons_succ])
            refine wpAnyH_take (i := 3) (oi := ({ dst := some 74, op := Op.move (Operand.tmp 6), type := 47, pos := "law.go:136", after := #[{ on := 2, ground := Ground.guard }], guard := some (2, true) } : Oper)) (v := undef) rfl (by kernel_rfl) (by kernel_rfl) (by kernel_rfl) (fun _ _ _ h => h) (Or.inr ⟨by rfl, rfl⟩) (by assumption) ?_
            (try simp only [Act.put, List.setIfInBounds_toArray, List.set_cons_zero, List.set_cons_succ])
            refine wpAnyH_take (i := 4) (oi := ({ dst := some 75, op := Op.move (Operand.tmp 8), type := 3, pos := "law.go:136", after := #[{ on := 2, ground := Ground.guard }], guard := some (2, true) } : Oper)) (v := undef) rfl (by kernel_rfl) (by kernel_rfl) (by kernel_rfl) (fun _ _ _ h => h) (Or.inr ⟨by rfl, rfl⟩) (by assumption) ?_
            (try simp only [Act.put, List.setIfInBounds_toArray, List.set_cons_zero, List.set_cons_succ])
            refine wpAnyH_take (i := 5) (oi := ({ dst := some 76, op := Op.indexAddr 47 (Operand.tmp 74) (Operand.tmp 75), type := 0, pos := "law.go:136", after := #[{ on := 3, ground := Ground.data }, { on := 4, ground := Ground.data }, { on := 2, ground := Ground.guard }], guard := some (2, true) } : Oper)) (v := undef) rfl (by kernel_rfl) (by kernel_rfl) (by kernel_rfl) (fun _ _ _ h => h) (Or.inr ⟨by rfl, rfl⟩) (by assumption) ?_
            (try simp only [Act.put, List.setIfInBounds_toArray, List.set_cons_zero, List.set_cons_succ])
            refine wpAnyH_take (i := 6) (oi := ({ dst := some 77, op := Op.fieldAddr 27 (Operand.tmp 76) 1, type := 0, pos := "law.go:136", after := #[{ on := 5, ground := Ground.data }, { on := 2, ground := Ground.guard }], guard := some (2, true) } : Oper)) (v := undef) rfl (by kernel_rfl) (by kernel_rfl) (by kernel_rfl) (fun _ _ _ h => h) (Or.inr ⟨by rfl, rfl⟩) (by assumption) ?_
            (try simp only [Act.put, List.setIfInBounds_toArray, List.set_cons_zero, List.set_cons_succ])
            refine wpAnyH_take (i := 7) (oi := ({ dst := some 78, op := Op.load 3 (Operand.tmp 77), type := 3, pos := "law.go:136", after := #[{ on := 6, ground := Ground.data }, { on := 2, ground := Ground.guard }], guard := some (2, true) } : Oper)) (v := undef) rfl (by kernel_rfl) (by kernel_rfl) (by kernel_rfl) (fun _ _ _ h => h) (Or.inr ⟨by rfl, rfl⟩) (by assumption) ?_
            (try simp only [Act.put, List.setIfInBounds_toArray, List.set_cons_zero, List.set_cons_succ])
            refine wpAnyH_take (i := 8) (oi := ({ dst := some 79, op := Op.move (Operand.tmp 6), type := 47, pos := "law.go:136", after := #[{ on := 2, ground := Ground.guard }], guard := some (2, true) } : Oper)) (v := undef) rfl (by kernel_rfl) (by kernel_rfl) (by kernel_rfl) (fun _ _ _ h => h) (Or.inr ⟨by rfl, rfl⟩) (by assumption) ?_
            (try simp only [Act.put, List.setIfInBounds_toArray, List.set_cons_zero, List.set_cons_succ])
            refine wpAnyH_take (i := 9) (oi := ({ dst := some 80, op := Op.move (Operand.tmp 8), type := 3, pos := "law.go:136", after := #[{ on := 2, ground := Ground.guard }], guard := some (2, true) } : Oper)) (v := undef) rfl (by kernel_rfl) (by kernel_rfl) (by kernel_rfl) (fun _ _ _ h => h) (Or.inr ⟨by rfl, rfl⟩) (by assumption) ?_
            (try simp only [Act.put, List.setIfInBounds_toArray, List.set_cons_zero, List.set_cons_succ])
            refine wpAnyH_take (i := 10) (oi := ({ dst := some 81, op := Op.binOp BinOp.sub 3 (Operand.tmp 80) (Operand.const (Value.int IntKind.i64 1)) 3, type := 3, pos := "law.go:136", after := #[{ on := 9, ground := Ground.data }, { on := 2, ground := Ground.guard }], guard := some (2, true) } : Oper)) (v := undef) rfl (by kernel_rfl) (by kernel_rfl) (by kernel_rfl) (fun _ _ _ h => h) (Or.inr ⟨by rfl, rfl⟩) (by assumption) ?_
            (try simp only [Act.put, List.setIfInBounds_toArray, List.set_cons_zero, List.set_cons_succ])
            refine wpAnyH_take (i := 11) (oi := ({ dst := some 82, op := Op.indexAddr 47 (Operand.tmp 79) (Operand.tmp 81), type := 0, pos := "law.go:136", after := #[{ on := 8, ground := Ground.data }, { on := 10, ground := Ground.data }, { on := 2, ground := Ground.guard }], guard := some (2, true) } : Oper)) (v := undef) rfl (by kernel_rfl) (by kernel_rfl) (by kernel_rfl) (fun _ _ _ h => h) (Or.inr ⟨by rfl, rfl⟩) (by assumption) ?_
            (try simp only [Act.put, List.setIfInBounds_toArray, List.set_cons_zero, List.set_cons_succ])
            refine wpAnyH_take (i := 12) (oi := ({ dst := some 83, op := Op.fieldAddr 27 (Operand.tmp 82) 1, type := 0, pos := "law.go:136", after := #[{ on := 11, ground := Ground.data }, { on := 2, ground := Ground.guard }], guard := some (2, true) } : Oper)) (v := undef) rfl (by kernel_rfl) (by kernel_rfl) (by kernel_rfl) (fun _ _ _ h => h) (Or.inr ⟨by rfl, rfl⟩) (by assumption) ?_
            (try simp only [Act.put, List.setIfInBounds_toArray, List.set_cons_zero, List.set_cons_succ])
            refine wpAnyH_take (i := 13) (oi := ({ dst := some 84, op := Op.load 3 (Operand.tmp 83), type := 3, pos := "law.go:136", after := #[{ on := 12, ground := Ground.data }, { on := 2, ground := Ground.guard }], guard := some (2, true) } : Oper)) (v := undef) rfl (by kernel_rfl) (by kernel_rfl) (by kernel_rfl) (fun _ _ _ h => h) (Or.inr ⟨by rfl, rfl⟩) (by assumption) ?_
            (try simp only [Act.put, List.setIfInBounds_toArray, List.set_cons_zero, List.set_cons_succ])
            refine wpAnyH_take (i := 14) (oi := ({ dst := some 85, op := Op.binOp BinOp.lss 3 (Operand.tmp 78) (Operand.tmp 84) 3, type := 4, pos := "law.go:136", after := #[{ on := 7, ground := Ground.data }, { on := 13, ground := Ground.data }, { on := 2, ground := Ground.guard }], guard := some (2, true) } : Oper)) (v := undef) rfl (by kernel_rfl) (by kernel_rfl) (by kernel_rfl) (fun _ _ _ h => h) (Or.inr ⟨by rfl, rfl⟩) (by assumption) ?_
            (try simp only [Act.put, List.setIfInBounds_toArray, List.set_cons_zero, List.set_cons_succ])
            refine wpAnyH_take (i := 15) (oi := ({ dst := some 86, op := Op.pick (Operand.tmp 73) (Operand.tmp 85) (Operand.const (Value.bool false)), type := 4, pos := "law.go:136", after := #[{ on := 2, ground := Ground.data }, { on := 14, ground := Ground.data }], guard := none } : Oper)) (v := ?_) rfl (by kernel_rfl) (by kernel_rfl) (by kernel_rfl) (fun _ _ _ h => h) (Or.inl ⟨by rfl, ?_⟩) (by assumption) ?_
            rotate_left
            · (intro w hSw; (try dsimp only at hSw); go_simp) <;> with_reducible rfl
            (try simp only [Act.put, List.setIfInBounds_toArray, List.set_cons_zero, List.set_cons_succ])
            refine wpAnyH_done (by kernel_rfl) ?_ _
            refine NoPanic.normal ?_
            go_wp2_with fail
            go_roundw
            case rel => exact ⟨0 + 1, by omega, by go_num, by rw [TS.out, wt], below_drewN' HB.out 1⟩
            case measure => simp [intOf]; omega
          · obtain ⟨i, hij⟩ : ∃ i, i + 1 = j := ⟨j - 1, by omega⟩
            have hil : i < l.length := by omega
            have c2 := CE.out _ HB.out i hil
            have od : l[i].n ≤ l[j].n := by
              have h1 := R5.out.2.2
              subst h1 hij
              exact M.all_order f i hjl
            have D0 := Lib.hid (And.intro (show decide ((0 : Int) < (j : Int)) = true by simp; omega) (show decide (0 < j) = true by simp; omega))
            have hiz : i < z := by omega
            have WJ := Lib.hid (show IntKind.i64.wrap ((j : Int) - 1) = (i : Int) by rw [IntKind.wrap_i64]; omega)
            obtain ⟨b, hb⟩ : ∃ b, l[i].n = b := ⟨_, rfl⟩
            rw [hb] at c2 od
            rw [ha] at od
            have DD := Lib.hid (show decide (a < b) = false by simp; exact od)
            clear ts bt ba ht ha h0 od hb hjl hil hij
            go_wp2_with fail
            have d0 := D0.out.1
            have d0' := D0.out.2
            have wj := WJ.out
            have dd := DD.out
            refine wp_region_noPanic ?_
            refine wp_region_held_drew (S := fun W => W.cell? ⟨ga, j * 2 + 1, none⟩ = some (.int .i64 a) ∧ W.cell? ⟨ga, i * 2 + 1, none⟩ = some (.int .i64 b)) (by kernel_rfl) (⟨c1, c2⟩) (fun hHeld => ?_)
            refine wpAnyH_take (i := 0) (oi := ({ dst := some 71, op := Op.move (Operand.tmp 8), type := 3, pos := "law.go:136", after := #[], guard := none } : Oper)) (v := ?_) rfl (by kernel_rfl) (by kernel_rfl) (by kernel_rfl) (fun _ _ _ h => h) (Or.inl ⟨by rfl, ?_⟩) (by assumption) ?_
            rotate_left
            · (intro w hSw; (try dsimp only at hSw); go_simp) <;> with_reducible rfl
            (try simp only [Act.put, List.setIfInBounds_toArray, List.set_cons_zero, List.set_cons_succ])
            refine wpAnyH_take (i := 1) (oi := ({ dst := some 72, op := Op.binOp BinOp.gtr 3 (Operand.tmp 71) (Operand.const (Value.int IntKind.i64 0)) 3, type := 4, pos := "law.go:136", after := #[{ on := 0, ground := Ground.data }], guard := none } : Oper)) (v := ?_) rfl (by kernel_rfl) (by kernel_rfl) (by kernel_rfl) (fun _ _ _ h => h) (Or.inl ⟨by rfl, ?_⟩) (by assumption) ?_
            rotate_left
            · (intro w hSw; (try dsimp only at hSw); go_simp) <;> with_reducible rfl
            (try simp only [Act.put, List.setIfInBounds_toArray, List.set_cons_zero, List.set_cons_succ])
            refine wpAnyH_take (i := 2) (oi := ({ dst := some 73, op := Op.move (Operand.tmp 72), type := 4, pos := "law.go:136", after := #[{ on := 1, ground := Ground.data }], guard := none } : Oper)) (v := ?_) rfl (by kernel_rfl) (by kernel_rfl) (by kernel_rfl) (fun _ _ _ h => h) (Or.inl ⟨by rfl, ?_⟩) (by assumption) ?_
            rotate_left
            · (intro w hSw; (try dsimp only at hSw); go_simp) <;> with_reducible rfl
            (try simp only [Act.put, List.setIfInBounds_toArray, List.set_cons_zero, List.set_cons_succ])
            refine wpAnyH_take (i := 3) (oi := ({ dst := some 74, op := Op.move (Operand.tmp 6), type := 47, pos := "law.go:136", after := #[{ on := 2, ground := Ground.guard }], guard := some (2, true) } : Oper)) (v := ?_) rfl (by kernel_rfl) (by kernel_rfl) (by kernel_rfl) (fun _ _ _ h => h) (Or.inl ⟨by rfl, ?_⟩) (by assumption) ?_
            rotate_left
            · (intro w hSw; (try dsimp only at hSw); go_simp) <;> with_reducible rfl
            (try simp only [Act.put, List.setIfInBounds_toArray, List.set_cons_zero, List.set_cons_succ])
            refine wpAnyH_take (i := 4) (oi := ({ dst := some 75, op := Op.move (Operand.tmp 8), type := 3, pos := "law.go:136", after := #[{ on := 2, ground := Ground.guard }], guard := some (2, true) } : Oper)) (v := ?_) rfl (by kernel_rfl) (by kernel_rfl) (by kernel_rfl) (fun _ _ _ h => h) (Or.inl ⟨by rfl, ?_⟩) (by assumption) ?_
            rotate_left
            · (intro w hSw; (try dsimp only at hSw); go_simp) <;> with_reducible rfl
            (try simp only [Act.put, List.setIfInBounds_toArray, List.set_cons_zero, List.set_cons_succ])
            refine wpAnyH_take (i := 5) (oi := ({ dst := some 76, op := Op.indexAddr 47 (Operand.tmp 74) (Operand.tmp 75), type := 0, pos := "law.go:136", after := #[{ on := 3, ground := Ground.data }, { on := 4, ground := Ground.data }, { on := 2, ground := Ground.guard }], guard := some (2, true) } : Oper)) (v := ?_) rfl (by kernel_rfl) (by kernel_rfl) (by kernel_rfl) (fun _ _ _ h => h) (Or.inl ⟨by rfl, ?_⟩) (by assumption) ?_
            rotate_left
            · (intro w hSw; (try dsimp only at hSw); go_simp) <;> with_reducible rfl
            (try simp only [Act.put, List.setIfInBounds_toArray, List.set_cons_zero, List.set_cons_succ])
            refine wpAnyH_take (i := 6) (oi := ({ dst := some 77, op := Op.fieldAddr 27 (Operand.tmp 76) 1, type := 0, pos := "law.go:136", after := #[{ on := 5, ground := Ground.data }, { on := 2, ground := Ground.guard }], guard := some (2, true) } : Oper)) (v := ?_) rfl (by kernel_rfl) (by kernel_rfl) (by kernel_rfl) (fun _ _ _ h => h) (Or.inl ⟨by rfl, ?_⟩) (by assumption) ?_
            rotate_left
            · (intro w hSw; (try dsimp only at hSw); go_simp) <;> with_reducible rfl
            (try simp only [Act.put, List.setIfInBounds_toArray, List.set_cons_zero, List.set_cons_succ])
            refine wpAnyH_take (i := 7) (oi := ({ dst := some 78, op := Op.load 3 (Operand.tmp 77), type := 3, pos := "law.go:136", after := #[{ on := 6, ground := Ground.data }, { on := 2, ground := Ground.guard }], guard := some (2, true) } : Oper)) (v := ?_) rfl (by kernel_rfl) (by kernel_rfl) (by kernel_rfl) (fun _ _ _ h => h) (Or.inl ⟨by rfl, ?_⟩) (by assumption) ?_
            rotate_left
            · (intro w hSw; (try dsimp only at hSw); go_simp) <;> with_reducible rfl
            (try simp only [Act.put, List.setIfInBounds_toArray, List.set_cons_zero, List.set_cons_succ])
            refine wpAnyH_take (i := 8) (oi := ({ dst := some 79, op := Op.move (Operand.tmp 6), type := 47, pos := "law.go:136", after := #[{ on := 2, ground := Ground.guard }], guard := some (2, true) } : Oper)) (v := ?_) rfl (by kernel_rfl) (by kernel_rfl) (by kernel_rfl) (fun _ _ _ h => h) (Or.inl ⟨by rfl, ?_⟩) (by assumption) ?_
            rotate_left
            · (intro w hSw; (try dsimp only at hSw); go_simp) <;> with_reducible rfl
            (try simp only [Act.put, List.setIfInBounds_toArray, List.set_cons_zero, List.set_cons_succ])
            refine wpAnyH_take (i := 9) (oi := ({ dst := some 80, op := Op.move (Operand.tmp 8), type := 3, pos := "law.go:136", after := #[{ on := 2, ground := Ground.guard }], guard := some (2, true) } : Oper)) (v := ?_) rfl (by kernel_rfl) (by kernel_rfl) (by kernel_rfl) (fun _ _ _ h => h) (Or.inl ⟨by rfl, ?_⟩) (by assumption) ?_
            rotate_left
            · (intro w hSw; (try dsimp only at hSw); go_simp) <;> with_reducible rfl
            (try simp only [Act.put, List.setIfInBounds_toArray, List.set_cons_zero, List.set_cons_succ])
            refine wpAnyH_take (i := 10) (oi := ({ dst := some 81, op := Op.binOp BinOp.sub 3 (Operand.tmp 80) (Operand.const (Value.int IntKind.i64 1)) 3, type := 3, pos := "law.go:136", after := #[{ on := 9, ground := Ground.data }, { on := 2, ground := Ground.guard }], guard := some (2, true) } : Oper)) (v := ?_) rfl (by kernel_rfl) (by kernel_rfl) (by kernel_rfl) (fun _ _ _ h => h) (Or.inl ⟨by rfl, ?_⟩) (by assumption) ?_
            rotate_left
            · (intro w hSw; (try dsimp only at hSw); go_simp) <;> with_reducible rfl
            (try simp only [Act.put, List.setIfInBounds_toArray, List.set_cons_zero, List.set_cons_succ])
            refine wpAnyH_take (i := 11) (oi := ({ dst := some 82, op := Op.indexAddr 47 (Operand.tmp 79) (Operand.tmp 81), type := 0, pos := "law.go:136", after := #[{ on := 8, ground := Ground.data }, { on := 10, ground := Ground.data }, { on := 2, ground := Ground.guard }], guard := some (2, true) } : Oper)) (v := ?_) rfl (by kernel_rfl) (by kernel_rfl) (by kernel_rfl) (fun _ _ _ h => h) (Or.inl ⟨by rfl, ?_⟩) (by assumption) ?_
            rotate_left
            · (intro w hSw; (try dsimp only at hSw); go_simp) <;> with_reducible rfl
            (try simp only [Act.put, List.setIfInBounds_toArray, List.set_cons_zero, List.set_cons_succ])
            refine wpAnyH_take (i := 12) (oi := ({ dst := some 83, op := Op.fieldAddr 27 (Operand.tmp 82) 1, type := 0, pos := "law.go:136", after := #[{ on := 11, ground := Ground.data }, { on := 2, ground := Ground.guard }], guard := some (2, true) } : Oper)) (v := ?_) rfl (by kernel_rfl) (by kernel_rfl) (by kernel_rfl) (fun _ _ _ h => h) (Or.inl ⟨by rfl, ?_⟩) (by assumption) ?_
            rotate_left
            · (intro w hSw; (try dsimp only at hSw); go_simp) <;> with_reducible rfl
            (try simp only [Act.put, List.setIfInBounds_toArray, List.set_cons_zero, List.set_cons_succ])
            refine wpAnyH_take (i := 13) (oi := ({ dst := some 84, op := Op.load 3 (Operand.tmp 83), type := 3, pos := "law.go:136", after := #[{ on := 12, ground := Ground.data }, { on := 2, ground := Ground.guard }], guard := some (2, true) } : Oper)) (v := ?_) rfl (by kernel_rfl) (by kernel_rfl) (by kernel_rfl) (fun _ _ _ h => h) (Or.inl ⟨by rfl, ?_⟩) (by assumption) ?_
            rotate_left
            · (intro w hSw; (try dsimp only at hSw); go_simp) <;> with_reducible rfl
            (try simp only [Act.put, List.setIfInBounds_toArray, List.set_cons_zero, List.set_cons_succ])
            refine wpAnyH_take (i := 14) (oi := ({ dst := some 85, op := Op.binOp BinOp.lss 3 (Operand.tmp 78) (Operand.tmp 84) 3, type := 4, pos := "law.go:136", after := #[{ on := 7, ground := Ground.data }, { on := 13, ground := Ground.data }, { on := 2, ground := Ground.guard }], guard := some (2, true) } : Oper)) (v := ?_) rfl (by kernel_rfl) (by kernel_rfl) (by kernel_rfl) (fun _ _ _ h => h) (Or.inl ⟨by rfl, ?_⟩) (by assumption) ?_
            rotate_left
            · (intro w hSw; (try dsimp only at hSw); go_simp) <;> with_reducible rfl
            (try simp only [Act.put, List.setIfInBounds_toArray, List.set_cons_zero, List.set_cons_succ])
            refine wpAnyH_take (i := 15) (oi := ({ dst := some 86, op := Op.pick (Operand.tmp 73) (Operand.tmp 85) (Operand.const (Value.bool false)), type := 4, pos := "law.go:136", after := #[{ on := 2, ground := Ground.data }, { on := 14, ground := Ground.data }], guard := none } : Oper)) (v := ?_) rfl (by kernel_rfl) (by kernel_rfl) (by kernel_rfl) (fun _ _ _ h => h) (Or.inl ⟨by rfl, ?_⟩) (by assumption) ?_
            rotate_left
            · (intro w hSw; (try dsimp only at hSw); go_simp) <;> with_reducible rfl
            (try simp only [Act.put, List.setIfInBounds_toArray, List.set_cons_zero, List.set_cons_succ])
            refine wpAnyH_done (by kernel_rfl) ?_ _
            refine NoPanic.normal ?_
            clear wj d0 d0'
            go_wp2_with fail
            go_roundw
            case rel => exact ⟨j + 1, by omega, by go_num, by rw [TS.out, wt], below_drewN' HB.out 1⟩
            case measure => simp [intOf]; omega
        · have hzj : j = z := by omega
          subst hzj
          have et : M.total (l.take j) = M.sum f := by rw [List.take_of_length_le (by have := R5.out.2.1; omega), R5.out.2.2, M.total_all]
          obtain ⟨t, ht⟩ : ∃ t, M.sum f = t := ⟨_, rfl⟩
          rw [et, ht]
          have HT := Lib.hid ht
          clear ht et hlj
          go_wp2_with fail
          go_loopw [9, 10, 11] (fun k _ _ wr => ∃ kk : Nat, kk ≤ 7 ∧ k = .int .i64 (kk : Int) ∧ Below w5.heap.size w5 wr) (fun k _ _ _ => 7 - (intOf k).toNat)
          case atStart => exact ⟨0, by omega, rfl, HB.out⟩
          case round =>
            obtain ⟨k, hk7, rfl, hb1⟩ := hrel
            clear HB
            have HB1 := Lib.hid hb1
            clear hb1
            by_cases hlk : k < 7
            · have d7 : decide ((k : Int) < 7) = true := by simp; omega
              obtain ⟨q, hq⟩ : ∃ q : Int, M.pg (k : Int) = q := ⟨_, rfl⟩
              have HQ := Lib.hid hq
              clear hq
              go_wp2_with fail
              rename_i wo
              go_loopw [10, 11] (fun n i wr => ∃ i' : Nat, i' ≤ j ∧ i = .int .i64 (i' : Int) ∧ n = .int .i64 ((M.pcnt (l.take i') q : Nat) : Int) ∧ Below w5.heap.size w5 wr) (fun _ i _ => j - (intOf i).toNat)
              case atStart => exact ⟨0, by omega, rfl, rfl, HB1.out⟩
              case round =>
                obtain ⟨i, hi, rfl, rfl, hb2⟩ := hrel
                have HB2 := Lib.hid hb2
                clear hb2
                by_cases hli : i < j
                · have hjl : i < l.length := by have := R5.out.2.1; omega
                  have ts := M.pcnt_take l q i hjl
                  have bt := M.pcnt_le l q i (by omega)
                  have c1 := CE.out _ HB2.out i hjl
                  obtain ⟨a, ha⟩ : ∃ a, l[i].n = a := ⟨_, rfl⟩
                  rw [ha] at c1 ts
                  obtain ⟨t', ht'⟩ : ∃ t', M.pcnt (l.take i) q = t' := ⟨_, rfl⟩
                  rw [ht'] at ts bt
                  rw [ht']
                  clear ha ht' hjl
                  by_cases eq : a = q
                  · rw [if_pos eq] at ts
                    have TS := Lib.hid ts
                    have ee : (a == q) = true := by simp [eq]
                    clear ts eq
                    go_wp2_with fail
                    refine wp_region_noPanic ?_
                    refine wp_region_held_drew (S := fun W => W.cell? ⟨ga, i * 2 + 1, none⟩ = some (.int .i64 a)) (by kernel_rfl) (c1) (fun hHeld => ?_)
                    refine wpAnyH_take (i := 0) (oi := ({ dst := some 97, op := Op.move (Operand.tmp 6), type := 47, pos := "law.go:143", after := #[], guard := none } : Oper)) (v := ?_) rfl (by kernel_rfl) (by kernel_rfl) (by kernel_rfl) (fun _ _ _ h => h) (Or.inl ⟨by rfl, ?_⟩) (by assumption) ?_
                    rotate_left
                    · (intro w hSw; (try dsimp only at hSw); go_simp) <;> with_reducible rfl
                    (try simp only [Act.put, List.setIfInBounds_toArray, List.set_cons_zero, List.set_cons_succ])
                    refine wpAnyH_take (i := 1) (oi := ({ dst := some 98, op := Op.move (Operand.tmp 11), type := 3, pos := "law.go:143", after := #[], guard := none } : Oper)) (v := ?_) rfl (by kernel_rfl) (by kernel_rfl) (by kernel_rfl) (fun _ _ _ h => h) (Or.inl ⟨by rfl, ?_⟩) (by assumption) ?_
                    rotate_left
                    · (intro w hSw; (try dsimp only at hSw); go_simp) <;> with_reducible rfl
                    (try simp only [Act.put, List.setIfInBounds_toArray, List.set_cons_zero, List.set_cons_succ])
                    refine wpAnyH_take (i := 2) (oi := ({ dst := some 99, op := Op.indexAddr 47 (Operand.tmp 97) (Operand.tmp 98), type := 0, pos := "law.go:143", after := #[{ on := 0, ground := Ground.data }, { on := 1, ground := Ground.data }], guard := none } : Oper)) (v := ?_) rfl (by kernel_rfl) (by kernel_rfl) (by kernel_rfl) (fun _ _ _ h => h) (Or.inl ⟨by rfl, ?_⟩) (by assumption) ?_
                    rotate_left
                    · (intro w hSw; (try dsimp only at hSw); go_simp) <;> with_reducible rfl
                    (try simp only [Act.put, List.setIfInBounds_toArray, List.set_cons_zero, List.set_cons_succ])
                    refine wpAnyH_take (i := 3) (oi := ({ dst := some 100, op := Op.fieldAddr 27 (Operand.tmp 99) 1, type := 0, pos := "law.go:143", after := #[{ on := 2, ground := Ground.data }], guard := none } : Oper)) (v := ?_) rfl (by kernel_rfl) (by kernel_rfl) (by kernel_rfl) (fun _ _ _ h => h) (Or.inl ⟨by rfl, ?_⟩) (by assumption) ?_
                    rotate_left
                    · (intro w hSw; (try dsimp only at hSw); go_simp) <;> with_reducible rfl
                    (try simp only [Act.put, List.setIfInBounds_toArray, List.set_cons_zero, List.set_cons_succ])
                    refine wpAnyH_take (i := 4) (oi := ({ dst := some 101, op := Op.load 3 (Operand.tmp 100), type := 3, pos := "law.go:143", after := #[{ on := 3, ground := Ground.data }], guard := none } : Oper)) (v := ?_) rfl (by kernel_rfl) (by kernel_rfl) (by kernel_rfl) (fun _ _ _ h => h) (Or.inl ⟨by rfl, ?_⟩) (by assumption) ?_
                    rotate_left
                    · (intro w hSw; (try dsimp only at hSw); go_simp) <;> with_reducible rfl
                    (try simp only [Act.put, List.setIfInBounds_toArray, List.set_cons_zero, List.set_cons_succ])
                    refine wpAnyH_take (i := 5) (oi := ({ dst := some 102, op := Op.move (Operand.tmp 9), type := 3, pos := "law.go:143", after := #[], guard := none } : Oper)) (v := ?_) rfl (by kernel_rfl) (by kernel_rfl) (by kernel_rfl) (fun _ _ _ h => h) (Or.inl ⟨by rfl, ?_⟩) (by assumption) ?_
                    rotate_left
                    · (intro w hSw; (try dsimp only at hSw); go_simp) <;> with_reducible rfl
                    (try simp only [Act.put, List.setIfInBounds_toArray, List.set_cons_zero, List.set_cons_succ])
                    refine wpAnyH_ready (rs := [6]) (by kernel_rfl) (by simp) ?_
                    refine AllReadyH.cons (o := ({ dst := some 103, op := Op.call { callee := Callee.value (Operand.func 22), args := #[Operand.tmp 102], argTypes := #[3] }, type := 3, pos := "law.go:143", after := #[{ on := 5, ground := Ground.data }], guard := none } : Oper)) rfl (fun K hK => ?_) ?_
                    · go_simp
                      refine (cpages_at (k : Int) q rfl HQ.out _).mono ?_
                      rintro e y1 ⟨rfl, rfl⟩
                      go_wp2_with fail
                      refine hK.out _ _ ?_ (fun hHeld => ?_)
                      · exact c1
                      clear hK K
                      (try simp only [Act.put, List.setIfInBounds_toArray, List.set_cons_zero, List.set_cons_succ])
                      refine wpAnyH_take (i := 7) (oi := ({ dst := some 104, op := Op.binOp BinOp.eql 3 (Operand.tmp 101) (Operand.tmp 103) 3, type := 4, pos := "law.go:143", after := #[{ on := 4, ground := Ground.data }, { on := 6, ground := Ground.data }], guard := none } : Oper)) (v := ?_) rfl (by kernel_rfl) (by kernel_rfl) (by kernel_rfl) (fun _ _ _ h => h) (Or.inl ⟨by rfl, ?_⟩) (by assumption) ?_
                      rotate_left
                      · (intro w hSw; (try dsimp only at hSw); go_simp) <;> with_reducible rfl
                      (try simp only [Act.put, List.setIfInBounds_toArray, List.set_cons_zero, List.set_cons_succ])
                      refine wpAnyH_done (by kernel_rfl) ?_ _
                      refine NoPanic.normal ?_
                      go_wp2_with fail
                      go_roundw
                      case rel => exact ⟨i + 1, by omega, by go_num, by rw [TS.out]; go_num, below_drewN' HB2.out 1⟩
                      case measure => simp [intOf]; omega
                    exact AllReadyH.nil
                  · rw [if_neg eq, Nat.add_zero] at ts
                    have TS := Lib.hid ts
                    have ee : (a == q) = false := by simp [eq]
                    clear ts eq
                    go_wp2_with fail
                    refine wp_region_noPanic ?_
                    refine wp_region_held_drew (S := fun W => W.cell? ⟨ga, i * 2 + 1, none⟩ = some (.int .i64 a)) (by kernel_rfl) (c1) (fun hHeld => ?_)
                    refine wpAnyH_take (i := 0) (oi := ({ dst := some 97, op := Op.move (Operand.tmp 6), type := 47, pos := "law.go:143", after := #[], guard := none } : Oper)) (v := ?_) rfl (by kernel_rfl) (by kernel_rfl) (by kernel_rfl) (fun _ _ _ h => h) (Or.inl ⟨by rfl, ?_⟩) (by assumption) ?_
                    rotate_left
                    · (intro w hSw; (try dsimp only at hSw); go_simp) <;> with_reducible rfl
                    (try simp only [Act.put, List.setIfInBounds_toArray, List.set_cons_zero, List.set_cons_succ])
                    refine wpAnyH_take (i := 1) (oi := ({ dst := some 98, op := Op.move (Operand.tmp 11), type := 3, pos := "law.go:143", after := #[], guard := none } : Oper)) (v := ?_) rfl (by kernel_rfl) (by kernel_rfl) (by kernel_rfl) (fun _ _ _ h => h) (Or.inl ⟨by rfl, ?_⟩) (by assumption) ?_
                    rotate_left
                    · (intro w hSw; (try dsimp only at hSw); go_simp) <;> with_reducible rfl
                    (try simp only [Act.put, List.setIfInBounds_toArray, List.set_cons_zero, List.set_cons_succ])
                    refine wpAnyH_take (i := 2) (oi := ({ dst := some 99, op := Op.indexAddr 47 (Operand.tmp 97) (Operand.tmp 98), type := 0, pos := "law.go:143", after := #[{ on := 0, ground := Ground.data }, { on := 1, ground := Ground.data }], guard := none } : Oper)) (v := ?_) rfl (by kernel_rfl) (by kernel_rfl) (by kernel_rfl) (fun _ _ _ h => h) (Or.inl ⟨by rfl, ?_⟩) (by assumption) ?_
                    rotate_left
                    · (intro w hSw; (try dsimp only at hSw); go_simp) <;> with_reducible rfl
                    (try simp only [Act.put, List.setIfInBounds_toArray, List.set_cons_zero, List.set_cons_succ])
                    refine wpAnyH_take (i := 3) (oi := ({ dst := some 100, op := Op.fieldAddr 27 (Operand.tmp 99) 1, type := 0, pos := "law.go:143", after := #[{ on := 2, ground := Ground.data }], guard := none } : Oper)) (v := ?_) rfl (by kernel_rfl) (by kernel_rfl) (by kernel_rfl) (fun _ _ _ h => h) (Or.inl ⟨by rfl, ?_⟩) (by assumption) ?_
                    rotate_left
                    · (intro w hSw; (try dsimp only at hSw); go_simp) <;> with_reducible rfl
                    (try simp only [Act.put, List.setIfInBounds_toArray, List.set_cons_zero, List.set_cons_succ])
                    refine wpAnyH_take (i := 4) (oi := ({ dst := some 101, op := Op.load 3 (Operand.tmp 100), type := 3, pos := "law.go:143", after := #[{ on := 3, ground := Ground.data }], guard := none } : Oper)) (v := ?_) rfl (by kernel_rfl) (by kernel_rfl) (by kernel_rfl) (fun _ _ _ h => h) (Or.inl ⟨by rfl, ?_⟩) (by assumption) ?_
                    rotate_left
                    · (intro w hSw; (try dsimp only at hSw); go_simp) <;> with_reducible rfl
                    (try simp only [Act.put, List.setIfInBounds_toArray, List.set_cons_zero, List.set_cons_succ])
                    refine wpAnyH_take (i := 5) (oi := ({ dst := some 102, op := Op.move (Operand.tmp 9), type := 3, pos := "law.go:143", after := #[], guard := none } : Oper)) (v := ?_) rfl (by kernel_rfl) (by kernel_rfl) (by kernel_rfl) (fun _ _ _ h => h) (Or.inl ⟨by rfl, ?_⟩) (by assumption) ?_
                    rotate_left
                    · (intro w hSw; (try dsimp only at hSw); go_simp) <;> with_reducible rfl
                    (try simp only [Act.put, List.setIfInBounds_toArray, List.set_cons_zero, List.set_cons_succ])
                    refine wpAnyH_ready (rs := [6]) (by kernel_rfl) (by simp) ?_
                    refine AllReadyH.cons (o := ({ dst := some 103, op := Op.call { callee := Callee.value (Operand.func 22), args := #[Operand.tmp 102], argTypes := #[3] }, type := 3, pos := "law.go:143", after := #[{ on := 5, ground := Ground.data }], guard := none } : Oper)) rfl (fun K hK => ?_) ?_
                    · go_simp
                      refine (cpages_at (k : Int) q rfl HQ.out _).mono ?_
                      rintro e y1 ⟨rfl, rfl⟩
                      go_wp2_with fail
                      refine hK.out _ _ ?_ (fun hHeld => ?_)
                      · exact c1
                      clear hK K
                      (try simp only [Act.put, List.setIfInBounds_toArray, List.set_cons_zero, List.set_cons_succ])
                      refine wpAnyH_take (i := 7) (oi := ({ dst := some 104, op := Op.binOp BinOp.eql 3 (Operand.tmp 101) (Operand.tmp 103) 3, type := 4, pos := "law.go:143", after := #[{ on := 4, ground := Ground.data }, { on := 6, ground := Ground.data }], guard := none } : Oper)) (v := ?_) rfl (by kernel_rfl) (by kernel_rfl) (by kernel_rfl) (fun _ _ _ h => h) (Or.inl ⟨by rfl, ?_⟩) (by assumption) ?_
                      rotate_left
                      · (intro w hSw; (try dsimp only at hSw); go_simp) <;> with_reducible rfl
                      (try simp only [Act.put, List.setIfInBounds_toArray, List.set_cons_zero, List.set_cons_succ])
                      refine wpAnyH_done (by kernel_rfl) ?_ _
                      refine NoPanic.normal ?_
                      go_wp2_with fail
                      go_roundw
                      case rel => exact ⟨i + 1, by omega, by go_num, by rw [TS.out]; rfl, below_drewN' HB2.out 1⟩
                      case measure => simp [intOf]; omega
                    exact AllReadyH.nil
                · have hij : i = j := by omega
                  subst hij
                  have ec : M.pcnt (l.take i) q = (f k).length := by rw [List.take_of_length_le (by have := R5.out.2.1; omega), R5.out.2.2, ← HQ.out, M.pcnt_all f k hlk]
                  have h4 := K5.out.has.good.four k
                  rw [ec]
                  obtain ⟨y, hy⟩ : ∃ y, (f (k : Int)).length = y := ⟨_, rfl⟩
                  rw [hy] at h4
                  rw [hy]
                  have HY := Lib.hid hy
                  have dy : decide ((4 : Int) < (y : Int)) = false := by simp; omega
                  clear ec hy
                  go_wp2_with fail
                  refine (k_len (K5.out.below HB2.out) k).mono ?_
                  rintro e w6 ⟨rfl, rfl⟩
                  rw [HY.out]
                  go_wp2_with fail
                  go_roundw
                  case rel => exact ⟨k + 1, by omega, by go_num, HB2.out⟩
                  case measure => simp [intOf]; omega
            · have e7 : k = 7 := by omega
              subst e7
              go_wp2_with fail
              refine (k_pages (K5.out.below HB1.out)).mono ?_
              rintro e w6 ⟨rfl, rfl⟩
              rw [HT.out]
              go_wp2_with fail
              refine (k_clear (K5.out.below HB1.out)).mono ?_
              rintro e w6 ⟨rfl, k6, _⟩
              have K6 := Lib.hid k6
              clear k6
              go_wp2_with fail
              refine (k_all K6.out).mono ?_
              rintro e w7 ⟨gb, z7, rfl, hz7, _, _, _, hb7⟩
              have hz0 : z7 = 0 := by rw [hz7]; rfl
              subst hz0
              have K7 := Lib.hid (K6.out.below hb7)
              clear hz7 hb7
              go_wp2_with fail
              refine (k_pages K7.out).mono ?_
              rintro e w8 ⟨rfl, rfl⟩
              rw [M.sum_empty]
              go_wp2_with fail
              refine (k_push K7.out 6 3).mono ?_
              rintro e w8 ⟨rfl, k8, _⟩
              rw [show M.pushB M.empty 6 3 = true by decide]
              have K8 := Lib.hid k8
              clear k8
              go_wp2_with fail
              go_ret
              exact ⟨rfl, K8.out.bel⟩

/-! The row's step. -/
set_option maxRecDepth 100000 in
theorem lifted (os : Os) (started : os.Started) (H : Type) (enc : TypeId × Value → H) :
    ReturnsInHanded {} Try.checked os 5 .any (Rows.cacheSumsSpec.pre6 enc Try.prog Try.f5 Rows.cacheSumsRow.domain false) (Rows.cacheSumsSpec.post enc Try.prog Try.f5 false true false false) := by
  refine returnsInHanded_of_change (C := Try.checked) own started (by kernel_rfl) Try.func5
    (ChangeSpec.witness6 (enc := enc) (C := Try.checked) false ⟨#[], #[.slice none 0 0], []⟩ 8 (by kernel_rfl) (by kernel_rfl) (by kernel_rfl) (by kernel_rfl)) ?_
  intro W base args ds gs before hval0 hW hcnd _
  have hval : ∀ (j : Nat) t v, Try.f5.params[j]? = some t → args[j]? = some v → Value.okWide Try.prog W .any base t v := hval0
  have hW' := hW
  obtain ⟨p, q, hA0, hV, rfl, hfz, hnd⟩ := hW
  have hA : DataW.TrodAll enc Try.prog W 0 (fun _ => true) true Try.f5.params.toList args.toList ds p := hA0
  rw [Try.params5] at hA hval
  obtain ⟨v0, vs0, d0, ds0, p0, q0, hargs, rfl, rfl, h0, r0⟩ := trodAll_cons hA
  obtain ⟨rfl, rfl, rfl⟩ := trodAll_nil r0
  obtain rfl : args = #[v0] := by cases args; simp_all
  obtain ⟨rfl, rfl⟩ := trodVars_none hV
  obtain ⟨a0, len0, cap0, rfl⟩ := okWide_slice Try.underlying22 (hval 0 22 v0 rfl rfl)
  have k0 := h0
  have lt0 : ∀ x ∈ p0, x.block < W.heap.size := by obtain ⟨m, hm⟩ := k0; exact DataW.trod_lt m _ _ _ hm
  have w0 : IsActs W a0 len0 := by
    obtain ⟨fuel, hf⟩ := h0
    obtain ⟨A, l, c, hcs, hw⟩ := acts_open hf
    simp [Value.cells] at hcs
    obtain ⟨rfl, rfl, rfl⟩ := hcs
    exact hw
  clear hA0 hval0
  refine (walk a0 len0 cap0 W w0).mono fun e W' ⟨he, bel⟩ => ?_
  subst he
  exact ⟨_, rfl, _, _, _, [], _, [], hW', trodAll_mk1 (shut_bool Try.underlying4 _), (trodAll_cons_mk (Below.trod laidOut (by kernel_rfl) (of_decide_eq_true (by kernel_rfl)) k0 bel lt0) trodAll_mk0), rfl, bel.frame _, fun h => by cases h⟩

theorem over : Rows.cacheSumsRow.holds Try.pinned (OpenSpec.ofChange Rows.cacheSumsSpec) :=
  OpenClaim.holds_of_wide 5 Try.f5 rfl rfl rfl rfl rfl rfl rfl ⟨rfl, rfl, rfl, rfl, rfl⟩ rfl rfl rfl rfl rfl (by kernel_rfl) Try.func5 (by kernel_rfl)
    (of_decide_eq_true (by kernel_rfl)) (by unfold Func.isWrapper; first | (rw [if_pos (by decide +kernel)]; kernel_rfl) | (rw [if_neg (by decide +kernel)]; exact ⟨rfl, rfl⟩))
    (fun os started H enc _ => lifted os started H enc)

/-- The statement. -/
theorem proved : Rows.CacheSumsSaid := over
#print axioms proved
end Go.Proofs.Yteiiiapjloincaa.cacheSums
