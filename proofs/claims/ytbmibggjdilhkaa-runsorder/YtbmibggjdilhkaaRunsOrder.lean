/-
  RunsOrder: pages that are given back in whatever order make the same runs, no two of which are adjacent; for every input the law returns true, and the arguments read behind the call as they read before. No condition.
-/
import Derived.Test.YtbmibggjdilhkaaRows
import Derived.WalkKit
import Derived.ProofKit
import Derived.OpenShut
import Derived.ShutString
import Derived.ChangeOld
import Derived.Below
import Derived.Test.YtbmibggjdilhkaaOrd5
namespace Go.Proofs.Ytbmibggjdilhkaa.runsOrder
open Go.ChangeShapes Go.WideShapes Go.ChangeAt Go.RowKit
set_option linter.unusedVariables false

theorem own : ownKnob Try.prog.godebug = none := by kernel_rfl

theorem imp_of {p : Prop} (h : p) : True → p := fun _ => h
theorem w6_of {x y : Int} (h : x = y) (h1 : -9223372036854775808 ≤ x) (h2 : x ≤ 9223372036854775807) : wrap64 x = y := by unfold wrap64; omega
theorem wi_of {x y : Int} (h : x = y) (h1 : -9223372036854775808 ≤ x) (h2 : x ≤ 9223372036854775807) : IntKind.i64.wrap x = y := by rw [IntKind.wrap_i64]; omega
theorem wu_of {x y : Int} (h : x = y) (h1 : 0 ≤ x) (h2 : x < 256) : IntKind.u8.wrap x = y := by rw [IntKind.wrap_u8]; omega
theorem tm_of {y r m : Nat} (h : r = y % m) : (y : Int).tmod (m : Int) = (r : Int) ∧ (y : Int) % (m : Int) = (r : Int) := by
  have e : (y : Int) % (m : Int) = (r : Int) := by rw [h]; exact (Int.natCast_emod y m).symm
  exact ⟨by rw [Int.tmod_eq_emod_of_nonneg (by omega)]; exact e, e⟩
theorem wi2_of {r : Nat} (h : r < 5) : IntKind.i64.wrap (IntKind.i64.wrap (r : Int) + 1) = (r : Int) + 1 := by
  have e : IntKind.i64.wrap (r : Int) = (r : Int) := wi_of rfl (by omega) (by omega)
  rw [e]
  exact wi_of rfl (by omega) (by omega)
theorem arg3_of {f : Nat} {a b c : Value} {y : Int} {W : World} {Q : Ending → World → Prop} (h : Calls Try.prog f #[a, b, c, .int .i64 y] W Q) : ∀ x, x = y → Calls Try.prog f #[a, b, c, .int .i64 x] W Q := by
  rintro x rfl
  exact h

/-! The walk. -/
set_option maxRecDepth 20000 in
set_option maxHeartbeats 8000000 in
theorem walk (a0 : Option Addr) (len0 cap0 : Nat) (z0 : List Int) (a1 : Int) (w : World) (w0 : IsRow .u8 w a0 len0 cap0 z0) (w1 : (Lit.int .u8 a1).wf = true) :
    Calls Try.prog 7 #[.slice a0 len0 cap0, .int .u8 a1] w fun e w' => e = .returned (.bool true) ∧ Below w.heap.size w w' := by
  obtain ⟨tn, htn, rfl⟩ := u8_nat w1
  obtain ⟨xs, hxs, hlies⟩ := row_u8 w0
  have HX := Lib.hid (And.intro hxs hlies)
  clear w0 w1 hxs hlies
  go_enter Try.func7, Try.ntmps7
  go_wp2_with fail
  refine (awake_any _).mono ?_
  rintro e w1 ⟨rfl, b1⟩
  have B1 := Lib.hid b1
  clear b1
  by_cases h20 : 20 < len0
  · have d1 : decide ((20 : Int) < (len0 : Int)) = true := by simp; omega
    go_wp2_with fail
    go_ret
    exact ⟨rfl, B1.out⟩
  have d1 : decide ((20 : Int) < (len0 : Int)) = false := by simp; omega
  by_cases h0 : len0 = 0
  · subst h0
    go_wp2_with fail
    go_ret
    exact ⟨rfl, B1.out⟩
  have d2 : ((len0 : Int) == 0) = false := by simp; omega
  have hz0 : ¬ ((len0 : Int) = 0) := by omega
  have mk := make_row w1 len0 (by omega)
  have i5 := row_made len0 w1
  have b5 := B1.out.alloc B1.out.size (.cells (madeCells #[.int .i64 0] len0) 3)
  go_wp2_with fail
  obtain ⟨w5, hw5⟩ : ∃ w5, w5 = w1.alloc (.cells (madeCells #[.int .i64 0] len0) 3) := ⟨_, rfl⟩
  obtain ⟨g, hg⟩ : ∃ g, g = w1.heap.size := ⟨_, rfl⟩
  rw [← hw5] at i5 b5 ⊢
  rw [← hg] at i5 ⊢
  have hgl : g < w5.heap.size ∧ w.heap.size ≤ g := ⟨by rw [hg, hw5]; simp, by rw [hg]; exact B1.out.size⟩
  have I5 := Lib.hid (And.intro i5 b5)
  have HGL := Lib.hid hgl
  clear mk i5 b5 hw5 hg d1 d2 hgl
  obtain ⟨ad, rfl, hcx⟩ := HX.out.2 (by rw [u8s_length, ← HX.out.1]; omega)
  have HCX := Lib.hid (show ∀ j (h : j < xs.length), w.cell? (ad.add j) = some (.int .u8 ((xs.getD j 0).toNat : Int)) from fun j hj => by
    have := hcx j (by rw [u8s_length]; exact hj)
    rw [this]
    simp [u8s, List.getD, List.getElem?_eq_getElem hj])
  clear hcx
  go_loopw [9] (fun i wr => ∃ k : Nat, 1 ≤ k ∧ k ≤ len0 ∧ i = .int .i64 (k : Int) ∧ ArrF wr g len0 (fun j => if j < k then (cutA xs j : Int) else 0) ∧ Below w.heap.size w wr ∧ g < wr.heap.size) (fun i _ => len0 - (intOf i).toNat)
  case atStart =>
    refine ⟨1, by omega, by omega, rfl, fun j hj => ⟨?_, (I5.out.1 j hj).2⟩, I5.out.2, HGL.out.1⟩
    rw [(I5.out.1 j hj).1]
    by_cases e : j < 1
    · obtain rfl : j = 0 := by omega
      rfl
    · simp [e]
  case round =>
    obtain ⟨k, hk1, hk, rfl, ha, br, hgr⟩ := hrel
    have BR := Lib.hid br
    have HA := Lib.hid ha
    clear br ha
    by_cases hlt : k < len0
    · obtain ⟨j, hjk⟩ : ∃ j, k = j + 1 := ⟨k - 1, by omega⟩
      have hjl : j < xs.length := by have := HX.out.1; omega
      have hcell := HCX.out j hjl
      obtain ⟨y, hy⟩ : ∃ y : Nat, y = (xs.getD j 0).toNat := ⟨_, rfl⟩
      have hy256 : y < 256 := by rw [hy]; exact (xs.getD j 0).toNat_lt
      obtain ⟨r, hr⟩ : ∃ r : Nat, r = y % 5 := ⟨_, rfl⟩
      have hcn : cutN xs j = r + 1 := by rw [cutN, ← hy, hr]
      have hcb : cutB xs j = decide (y % 3 ≠ 0) := by rw [cutB, ← hy]
      rw [← hy] at hcell
      have hr5 : r < 5 := by omega
      have HR1 := Lib.hid (show (y : Int).tmod 5 = (r : Int) ∧ (y : Int) % 5 = (r : Int) from tm_of (m := 5) hr)
      have HU8 := Lib.hid (wu_of (x := (r : Int)) rfl (by omega) (by omega))
      have hcA : cutA xs k = cutA xs j + (r + 1) := by rw [hjk, ← hcn]; rfl
      have hle := cutA_le xs j
      obtain ⟨cA, hcAe⟩ : ∃ cA, cA = cutA xs j := ⟨_, rfl⟩
      obtain ⟨cB, hcBe⟩ : ∃ cB, cB = cutA xs k := ⟨_, rfl⟩
      have d0 := (HA.out j (by omega)).1
      simp only [show j < k by omega, if_true] at d0
      rw [← hcAe] at d0 hle hcA
      rw [← hcBe] at hcA
      have c0 := (BR.out.cell (lt_of_cell hcell)).trans hcell
      have d1 := (HA.out k hlt).1
      have f1 := (HA.out k hlt).2
      have HWJ := Lib.hid (wi_of (x := (k : Int) - 1) (y := (j : Int)) (by omega) (by omega) (by omega))
      have HS1 := Lib.hid (wi_of (x := (cA : Int) + (r : Int)) rfl (by omega) (by omega))
      have HS2 := Lib.hid (wi_of (x := (cA : Int) + (r : Int) + 1) (y := (cB : Int)) (by omega) (by omega) (by omega))
      have HS1' := Lib.hid (w6_of (x := (cA : Int) + (r : Int)) rfl (by omega) (by omega))
      have HS2' := Lib.hid (w6_of (x := (cA : Int) + (r : Int) + 1) (y := (cB : Int)) (by omega) (by omega) (by omega))
      have hj20 : j < len0 := by omega
      have hset := HA.out.set k hlt (cB : Int)
      have HSET := Lib.hid (show ArrF (wr.setCell ⟨g, k, none⟩ (.int .i64 (cB : Int))) g len0 (fun j => if j < k + 1 then (cutA xs j : Int) else 0) from fun i hi => by
        refine ⟨(hset i hi).1.trans ?_, (hset i hi).2⟩
        congr 2
        by_cases e : i = k
        · subst e; simp [hcBe]
        · simp only [e, if_false]
          by_cases e2 : i < k
          · simp [e2, show i < k + 1 by omega]
          · simp [e2, show ¬ i < k + 1 by omega])
      have BSET := Lib.hid (show Below w.heap.size w (wr.setCell ⟨g, k, none⟩ (.int .i64 (cB : Int))) from BR.out.setCell (p := ⟨g, k, none⟩) HGL.out.2 _)
      clear hjl hcell hy hr hcn hcb hcA hle hcAe hcBe hset hjk
      have hwj := imp_of HWJ.out
      have hs1 := imp_of HS1.out
      have hs2 := imp_of HS2.out
      have hs1' := imp_of HS1'.out
      have hs2' := imp_of HS2'.out
      have hr1 := imp_of HR1.out.1
      have hr2 := imp_of HR1.out.2
      have hu8 := imp_of HU8.out
      go_wp2_with fail
      refine wp_region_noPanic ?_
      refine wp_region_held_drew (S := fun _ => True) (by kernel_rfl) (trivial) (fun hHeld => ?_)
      refine wpAnyH_take (i := 0) (oi := ({ dst := some 37, op := Op.move (Operand.tmp 8), type := 39, pos := "law.go:102", after := #[], guard := none } : Oper)) (v := ?_) rfl (by kernel_rfl) (by kernel_rfl) (by kernel_rfl) (fun _ _ _ h => h) (Or.inl ⟨by rfl, ?_⟩) (by assumption) ?_
      rotate_left
      · (intro w hSw; (try dsimp only at hSw); go_simp) <;> with_reducible rfl
      (try simp only [Act.put, List.setIfInBounds_toArray, List.set_cons_zero, List.set_cons_succ])
      refine wpAnyH_take (i := 1) (oi := ({ dst := some 38, op := Op.move (Operand.tmp 9), type := 3, pos := "law.go:102", after := #[], guard := none } : Oper)) (v := ?_) rfl (by kernel_rfl) (by kernel_rfl) (by kernel_rfl) (fun _ _ _ h => h) (Or.inl ⟨by rfl, ?_⟩) (by assumption) ?_
      rotate_left
      · (intro w hSw; (try dsimp only at hSw); go_simp) <;> with_reducible rfl
      (try simp only [Act.put, List.setIfInBounds_toArray, List.set_cons_zero, List.set_cons_succ])
      refine wpAnyH_take (i := 2) (oi := ({ dst := some 39, op := Op.move (Operand.tmp 8), type := 39, pos := "law.go:102", after := #[], guard := none } : Oper)) (v := ?_) rfl (by kernel_rfl) (by kernel_rfl) (by kernel_rfl) (fun _ _ _ h => h) (Or.inl ⟨by rfl, ?_⟩) (by assumption) ?_
      rotate_left
      · (intro w hSw; (try dsimp only at hSw); go_simp) <;> with_reducible rfl
      (try simp only [Act.put, List.setIfInBounds_toArray, List.set_cons_zero, List.set_cons_succ])
      refine wpAnyH_take (i := 3) (oi := ({ dst := some 40, op := Op.move (Operand.tmp 9), type := 3, pos := "law.go:102", after := #[], guard := none } : Oper)) (v := ?_) rfl (by kernel_rfl) (by kernel_rfl) (by kernel_rfl) (fun _ _ _ h => h) (Or.inl ⟨by rfl, ?_⟩) (by assumption) ?_
      rotate_left
      · (intro w hSw; (try dsimp only at hSw); go_simp) <;> with_reducible rfl
      (try simp only [Act.put, List.setIfInBounds_toArray, List.set_cons_zero, List.set_cons_succ])
      refine wpAnyH_take (i := 4) (oi := ({ dst := some 41, op := Op.binOp BinOp.sub 3 (Operand.tmp 40) (Operand.const (Value.int IntKind.i64 1)) 3, type := 3, pos := "law.go:102", after := #[{ on := 3, ground := Ground.data }], guard := none } : Oper)) (v := ?_) rfl (by kernel_rfl) (by kernel_rfl) (by kernel_rfl) (fun _ _ _ h => h) (Or.inl ⟨by rfl, ?_⟩) (by assumption) ?_
      rotate_left
      · (intro w hSw; (try dsimp only at hSw); go_simp) <;> with_reducible rfl
      (try simp only [Act.put, List.setIfInBounds_toArray, List.set_cons_zero, List.set_cons_succ])
      refine wpAnyH_take (i := 5) (oi := ({ dst := some 42, op := Op.indexAddr 39 (Operand.tmp 39) (Operand.tmp 41), type := 0, pos := "law.go:102", after := #[{ on := 2, ground := Ground.data }, { on := 4, ground := Ground.data }], guard := none } : Oper)) (v := ?_) rfl (by kernel_rfl) (by kernel_rfl) (by kernel_rfl) (fun _ _ _ h => h) (Or.inl ⟨by rfl, ?_⟩) (by assumption) ?_
      rotate_left
      · (intro w hSw; (try dsimp only at hSw); go_simp) <;> with_reducible rfl
      (try simp only [Act.put, List.setIfInBounds_toArray, List.set_cons_zero, List.set_cons_succ])
      refine wpAnyH_take (i := 7) (oi := ({ dst := some 44, op := Op.move (Operand.tmp 0), type := 38, pos := "law.go:102", after := #[], guard := none } : Oper)) (v := ?_) rfl (by kernel_rfl) (by kernel_rfl) (by kernel_rfl) (fun _ _ _ h => h) (Or.inl ⟨by rfl, ?_⟩) (by assumption) ?_
      rotate_left
      · (intro w hSw; (try dsimp only at hSw); go_simp) <;> with_reducible rfl
      (try simp only [Act.put, List.setIfInBounds_toArray, List.set_cons_zero, List.set_cons_succ])
      refine wpAnyH_take (i := 8) (oi := ({ dst := some 45, op := Op.move (Operand.tmp 9), type := 3, pos := "law.go:102", after := #[], guard := none } : Oper)) (v := ?_) rfl (by kernel_rfl) (by kernel_rfl) (by kernel_rfl) (fun _ _ _ h => h) (Or.inl ⟨by rfl, ?_⟩) (by assumption) ?_
      rotate_left
      · (intro w hSw; (try dsimp only at hSw); go_simp) <;> with_reducible rfl
      (try simp only [Act.put, List.setIfInBounds_toArray, List.set_cons_zero, List.set_cons_succ])
      refine wpAnyH_take (i := 9) (oi := ({ dst := some 46, op := Op.binOp BinOp.sub 3 (Operand.tmp 45) (Operand.const (Value.int IntKind.i64 1)) 3, type := 3, pos := "law.go:102", after := #[{ on := 8, ground := Ground.data }], guard := none } : Oper)) (v := ?_) rfl (by kernel_rfl) (by kernel_rfl) (by kernel_rfl) (fun _ _ _ h => h) (Or.inl ⟨by rfl, ?_⟩) (by assumption) ?_
      rotate_left
      · (intro w hSw; (try dsimp only at hSw); go_simp) <;> with_reducible rfl
      (try simp only [Act.put, List.setIfInBounds_toArray, List.set_cons_zero, List.set_cons_succ])
      refine wpAnyH_take (i := 10) (oi := ({ dst := some 47, op := Op.indexAddr 38 (Operand.tmp 44) (Operand.tmp 46), type := 0, pos := "law.go:102", after := #[{ on := 7, ground := Ground.data }, { on := 9, ground := Ground.data }], guard := none } : Oper)) (v := ?_) rfl (by kernel_rfl) (by kernel_rfl) (by kernel_rfl) (fun _ _ _ h => h) (Or.inl ⟨by rfl, ?_⟩) (by assumption) ?_
      rotate_left
      · (intro w hSw; (try dsimp only at hSw); go_simp) <;> with_reducible rfl
      (try simp only [Act.put, List.setIfInBounds_toArray, List.set_cons_zero, List.set_cons_succ])
      refine wpAnyH_ready (rs := [6, 11]) (by kernel_rfl) (by simp) ?_
      refine AllReadyH.cons (o := ({ dst := some 43, op := Op.load 3 (Operand.tmp 42), type := 3, pos := "law.go:102", after := #[{ on := 5, ground := Ground.data }], guard := none } : Oper)) rfl (fun K hK => ?_) ?_
      · go_simp
        refine hK.out _ _ ?_ (fun hHeld => ?_)
        · trivial
        clear hK K
        (try simp only [Act.put, List.setIfInBounds_toArray, List.set_cons_zero, List.set_cons_succ])
        refine wpAnyH_ready (rs := [11]) (by kernel_rfl) (by simp) ?_
        refine AllReadyH.cons (o := ({ dst := some 48, op := Op.load 5 (Operand.tmp 47), type := 5, pos := "law.go:102", after := #[{ on := 10, ground := Ground.data }], guard := none } : Oper)) rfl (fun K hK => ?_) ?_
        · go_simp
          refine hK.out _ _ ?_ (fun hHeld => ?_)
          · trivial
          clear hK K
          (try simp only [Act.put, List.setIfInBounds_toArray, List.set_cons_zero, List.set_cons_succ])
          refine wpAnyH_take (i := 12) (oi := ({ dst := some 49, op := Op.binOp BinOp.rem 5 (Operand.tmp 48) (Operand.const (Value.int IntKind.u8 5)) 5, type := 5, pos := "law.go:102", after := #[{ on := 11, ground := Ground.data }], guard := none } : Oper)) (v := ?_) rfl (by kernel_rfl) (by kernel_rfl) (by kernel_rfl) (fun _ _ _ h => h) (Or.inl ⟨by rfl, ?_⟩) (by assumption) ?_
          rotate_left
          · (intro w hSw; (try dsimp only at hSw); go_simp) <;> with_reducible rfl
          (try simp only [Act.put, List.setIfInBounds_toArray, List.set_cons_zero, List.set_cons_succ])
          refine wpAnyH_take (i := 13) (oi := ({ dst := some 50, op := Op.convert 5 3 (Operand.tmp 49), type := 3, pos := "law.go:102", after := #[{ on := 12, ground := Ground.data }], guard := none } : Oper)) (v := ?_) rfl (by kernel_rfl) (by kernel_rfl) (by kernel_rfl) (fun _ _ _ h => h) (Or.inl ⟨by rfl, ?_⟩) (by assumption) ?_
          rotate_left
          · (intro w hSw; (try dsimp only at hSw); go_simp) <;> with_reducible rfl
          (try simp only [Act.put, List.setIfInBounds_toArray, List.set_cons_zero, List.set_cons_succ])
          refine wpAnyH_take (i := 14) (oi := ({ dst := some 51, op := Op.binOp BinOp.add 3 (Operand.tmp 43) (Operand.tmp 50) 3, type := 3, pos := "law.go:102", after := #[{ on := 6, ground := Ground.data }, { on := 13, ground := Ground.data }], guard := none } : Oper)) (v := ?_) rfl (by kernel_rfl) (by kernel_rfl) (by kernel_rfl) (fun _ _ _ h => h) (Or.inl ⟨by rfl, ?_⟩) (by assumption) ?_
          rotate_left
          · (intro w hSw; (try dsimp only at hSw); go_simp) <;> with_reducible rfl
          (try simp only [Act.put, List.setIfInBounds_toArray, List.set_cons_zero, List.set_cons_succ])
          refine wpAnyH_take (i := 15) (oi := ({ dst := some 52, op := Op.binOp BinOp.add 3 (Operand.tmp 51) (Operand.const (Value.int IntKind.i64 1)) 3, type := 3, pos := "law.go:102", after := #[{ on := 14, ground := Ground.data }], guard := none } : Oper)) (v := ?_) rfl (by kernel_rfl) (by kernel_rfl) (by kernel_rfl) (fun _ _ _ h => h) (Or.inl ⟨by rfl, ?_⟩) (by assumption) ?_
          rotate_left
          · (intro w hSw; (try dsimp only at hSw); go_simp) <;> with_reducible rfl
          (try simp only [Act.put, List.setIfInBounds_toArray, List.set_cons_zero, List.set_cons_succ])
          refine wpAnyH_take (i := 16) (oi := ({ dst := some 53, op := Op.indexAddr 39 (Operand.tmp 37) (Operand.tmp 38), type := 0, pos := "law.go:102", after := #[{ on := 0, ground := Ground.data }, { on := 1, ground := Ground.data }, { on := 0, ground := Ground.phase }, { on := 1, ground := Ground.phase }, { on := 2, ground := Ground.phase }, { on := 3, ground := Ground.phase }, { on := 4, ground := Ground.phase }, { on := 5, ground := Ground.phase }, { on := 6, ground := Ground.phase }, { on := 7, ground := Ground.phase }, { on := 8, ground := Ground.phase }, { on := 9, ground := Ground.phase }, { on := 10, ground := Ground.phase }, { on := 11, ground := Ground.phase }, { on := 12, ground := Ground.phase }, { on := 13, ground := Ground.phase }, { on := 14, ground := Ground.phase }, { on := 15, ground := Ground.phase }], guard := none } : Oper)) (v := ?_) rfl (by kernel_rfl) (by kernel_rfl) (by kernel_rfl) (fun _ _ _ h => h) (Or.inl ⟨by rfl, ?_⟩) (by assumption) ?_
          rotate_left
          · (intro w hSw; (try dsimp only at hSw); go_simp) <;> with_reducible rfl
          (try simp only [Act.put, List.setIfInBounds_toArray, List.set_cons_zero, List.set_cons_succ])
          refine wpAnyH_ready (rs := [17]) (by kernel_rfl) (by simp) ?_
          refine AllReadyH.cons (o := ({ dst := none, op := Op.store 3 (Operand.tmp 53) (Operand.tmp 52), type := 0, pos := "law.go:102", after := #[{ on := 16, ground := Ground.data }, { on := 15, ground := Ground.data }, { on := 0, ground := Ground.phase }, { on := 1, ground := Ground.phase }, { on := 2, ground := Ground.phase }, { on := 3, ground := Ground.phase }, { on := 4, ground := Ground.phase }, { on := 5, ground := Ground.phase }, { on := 6, ground := Ground.phase }, { on := 7, ground := Ground.phase }, { on := 8, ground := Ground.phase }, { on := 9, ground := Ground.phase }, { on := 10, ground := Ground.phase }, { on := 11, ground := Ground.phase }, { on := 12, ground := Ground.phase }, { on := 13, ground := Ground.phase }, { on := 14, ground := Ground.phase }, { on := 15, ground := Ground.phase }], guard := none } : Oper)) rfl (fun K hK => ?_) ?_
          · go_simp
            refine hK.out _ _ ?_ (fun hHeld => ?_)
            · trivial
            clear hK K
            (try simp only [Act.put, List.setIfInBounds_toArray, List.set_cons_zero, List.set_cons_succ])
            refine wpAnyH_done (by kernel_rfl) ?_ _
            refine NoPanic.normal ?_
            go_wp2_with fail
            rw [HS1'.out, HS2'.out]
            clear hwj hs1 hs2 hs1' hs2' hr1 hr2 hu8
            go_roundw
            case rel => exact ⟨k + 1, by omega, by omega, by go_num, fun i hi => HSET.out i hi, BSET.out.drew, by simpa [World.setCell] using hgr⟩
            case measure => simp [intOf]; omega
          exact AllReadyH.nil
        exact AllReadyH.nil
      refine AllReadyH.cons (o := ({ dst := some 48, op := Op.load 5 (Operand.tmp 47), type := 5, pos := "law.go:102", after := #[{ on := 10, ground := Ground.data }], guard := none } : Oper)) rfl (fun K hK => ?_) ?_
      · go_simp
        refine hK.out _ _ ?_ (fun hHeld => ?_)
        · trivial
        clear hK K
        (try simp only [Act.put, List.setIfInBounds_toArray, List.set_cons_zero, List.set_cons_succ])
        refine wpAnyH_take (i := 12) (oi := ({ dst := some 49, op := Op.binOp BinOp.rem 5 (Operand.tmp 48) (Operand.const (Value.int IntKind.u8 5)) 5, type := 5, pos := "law.go:102", after := #[{ on := 11, ground := Ground.data }], guard := none } : Oper)) (v := ?_) rfl (by kernel_rfl) (by kernel_rfl) (by kernel_rfl) (fun _ _ _ h => h) (Or.inl ⟨by rfl, ?_⟩) (by assumption) ?_
        rotate_left
        · (intro w hSw; (try dsimp only at hSw); go_simp) <;> with_reducible rfl
        (try simp only [Act.put, List.setIfInBounds_toArray, List.set_cons_zero, List.set_cons_succ])
        refine wpAnyH_take (i := 13) (oi := ({ dst := some 50, op := Op.convert 5 3 (Operand.tmp 49), type := 3, pos := "law.go:102", after := #[{ on := 12, ground := Ground.data }], guard := none } : Oper)) (v := ?_) rfl (by kernel_rfl) (by kernel_rfl) (by kernel_rfl) (fun _ _ _ h => h) (Or.inl ⟨by rfl, ?_⟩) (by assumption) ?_
        rotate_left
        · (intro w hSw; (try dsimp only at hSw); go_simp) <;> with_reducible rfl
        (try simp only [Act.put, List.setIfInBounds_toArray, List.set_cons_zero, List.set_cons_succ])
        refine wpAnyH_ready (rs := [6]) (by kernel_rfl) (by simp) ?_
        refine AllReadyH.cons (o := ({ dst := some 43, op := Op.load 3 (Operand.tmp 42), type := 3, pos := "law.go:102", after := #[{ on := 5, ground := Ground.data }], guard := none } : Oper)) rfl (fun K hK => ?_) ?_
        · go_simp
          refine hK.out _ _ ?_ (fun hHeld => ?_)
          · trivial
          clear hK K
          (try simp only [Act.put, List.setIfInBounds_toArray, List.set_cons_zero, List.set_cons_succ])
          refine wpAnyH_take (i := 14) (oi := ({ dst := some 51, op := Op.binOp BinOp.add 3 (Operand.tmp 43) (Operand.tmp 50) 3, type := 3, pos := "law.go:102", after := #[{ on := 6, ground := Ground.data }, { on := 13, ground := Ground.data }], guard := none } : Oper)) (v := ?_) rfl (by kernel_rfl) (by kernel_rfl) (by kernel_rfl) (fun _ _ _ h => h) (Or.inl ⟨by rfl, ?_⟩) (by assumption) ?_
          rotate_left
          · (intro w hSw; (try dsimp only at hSw); go_simp) <;> with_reducible rfl
          (try simp only [Act.put, List.setIfInBounds_toArray, List.set_cons_zero, List.set_cons_succ])
          refine wpAnyH_take (i := 15) (oi := ({ dst := some 52, op := Op.binOp BinOp.add 3 (Operand.tmp 51) (Operand.const (Value.int IntKind.i64 1)) 3, type := 3, pos := "law.go:102", after := #[{ on := 14, ground := Ground.data }], guard := none } : Oper)) (v := ?_) rfl (by kernel_rfl) (by kernel_rfl) (by kernel_rfl) (fun _ _ _ h => h) (Or.inl ⟨by rfl, ?_⟩) (by assumption) ?_
          rotate_left
          · (intro w hSw; (try dsimp only at hSw); go_simp) <;> with_reducible rfl
          (try simp only [Act.put, List.setIfInBounds_toArray, List.set_cons_zero, List.set_cons_succ])
          refine wpAnyH_take (i := 16) (oi := ({ dst := some 53, op := Op.indexAddr 39 (Operand.tmp 37) (Operand.tmp 38), type := 0, pos := "law.go:102", after := #[{ on := 0, ground := Ground.data }, { on := 1, ground := Ground.data }, { on := 0, ground := Ground.phase }, { on := 1, ground := Ground.phase }, { on := 2, ground := Ground.phase }, { on := 3, ground := Ground.phase }, { on := 4, ground := Ground.phase }, { on := 5, ground := Ground.phase }, { on := 6, ground := Ground.phase }, { on := 7, ground := Ground.phase }, { on := 8, ground := Ground.phase }, { on := 9, ground := Ground.phase }, { on := 10, ground := Ground.phase }, { on := 11, ground := Ground.phase }, { on := 12, ground := Ground.phase }, { on := 13, ground := Ground.phase }, { on := 14, ground := Ground.phase }, { on := 15, ground := Ground.phase }], guard := none } : Oper)) (v := ?_) rfl (by kernel_rfl) (by kernel_rfl) (by kernel_rfl) (fun _ _ _ h => h) (Or.inl ⟨by rfl, ?_⟩) (by assumption) ?_
          rotate_left
          · (intro w hSw; (try dsimp only at hSw); go_simp) <;> with_reducible rfl
          (try simp only [Act.put, List.setIfInBounds_toArray, List.set_cons_zero, List.set_cons_succ])
          refine wpAnyH_ready (rs := [17]) (by kernel_rfl) (by simp) ?_
          refine AllReadyH.cons (o := ({ dst := none, op := Op.store 3 (Operand.tmp 53) (Operand.tmp 52), type := 0, pos := "law.go:102", after := #[{ on := 16, ground := Ground.data }, { on := 15, ground := Ground.data }, { on := 0, ground := Ground.phase }, { on := 1, ground := Ground.phase }, { on := 2, ground := Ground.phase }, { on := 3, ground := Ground.phase }, { on := 4, ground := Ground.phase }, { on := 5, ground := Ground.phase }, { on := 6, ground := Ground.phase }, { on := 7, ground := Ground.phase }, { on := 8, ground := Ground.phase }, { on := 9, ground := Ground.phase }, { on := 10, ground := Ground.phase }, { on := 11, ground := Ground.phase }, { on := 12, ground := Ground.phase }, { on := 13, ground := Ground.phase }, { on := 14, ground := Ground.phase }, { on := 15, ground := Ground.phase }], guard := none } : Oper)) rfl (fun K hK => ?_) ?_
          · go_simp
            refine hK.out _ _ ?_ (fun hHeld => ?_)
            · trivial
            clear hK K
            (try simp only [Act.put, List.setIfInBounds_toArray, List.set_cons_zero, List.set_cons_succ])
            refine wpAnyH_done (by kernel_rfl) ?_ _
            refine NoPanic.normal ?_
            go_wp2_with fail
            rw [HS1'.out, HS2'.out]
            clear hwj hs1 hs2 hs1' hs2' hr1 hr2 hu8
            go_roundw
            case rel => exact ⟨k + 1, by omega, by omega, by go_num, fun i hi => HSET.out i hi, BSET.out.drew, by simpa [World.setCell] using hgr⟩
            case measure => simp [intOf]; omega
          exact AllReadyH.nil
        exact AllReadyH.nil
      exact AllReadyH.nil
    · have e1 : k = len0 := by omega
      obtain ⟨w6, hw6⟩ : ∃ w6, w6 = wr := ⟨_, rfl⟩
      rw [← hw6] at HA BR hgr ⊢
      have H6 := Lib.hid (show ArrF w6 g len0 (fun j => (cutA xs j : Int)) ∧ Below w.heap.size w w6 ∧ g < w6.heap.size from ⟨fun j hj => ⟨by rw [(HA.out j hj).1]; simp [show j < k by omega], (HA.out j hj).2⟩, BR.out, hgr⟩)
      clear HA BR hgr hw6
      go_wp2_with fail
      clear e1 hk1 hk hlt
      go_loopw [6, 10] (fun v i wr => ∃ (i' t c : Nat) (A : Option Addr) (la : List M.R), i' ≤ len0 ∧ v = .slice A t c ∧ i = .int .i64 (i' : Int) ∧ Acc xs (fun i => i) i' la ∧ Runs wr A la ∧ t = la.length ∧ Below w6.heap.size w6 wr) (fun v i _ => len0 - (intOf i).toNat)
      case atStart => exact ⟨0, 0, 0, none, [], by omega, rfl, rfl, Acc.zero xs _, Runs.nil, rfl, Below.refl _ _⟩
      case round =>
        obtain ⟨i, t, c, A, la, hi, rfl, rfl, hacc, hrun, ht, bx⟩ := hrel
        have BX := Lib.hid bx
        have HM := Lib.hid (And.intro hacc (And.intro hrun ht))
        clear bx hacc hrun ht
        by_cases hlt : i < len0
        · skip
          have hjl : i < xs.length := by have := HX.out.1; omega
          have hcell := HCX.out i hjl
          obtain ⟨y, hy⟩ : ∃ y : Nat, y = (xs.getD i 0).toNat := ⟨_, rfl⟩
          have hy256 : y < 256 := by rw [hy]; exact (xs.getD i 0).toNat_lt
          obtain ⟨r, hr⟩ : ∃ r : Nat, r = y % 5 := ⟨_, rfl⟩
          have hcn : cutN xs i = r + 1 := by rw [cutN, ← hy, hr]
          have hcb : cutB xs i = decide (y % 3 ≠ 0) := by rw [cutB, ← hy]
          rw [← hy] at hcell
          have hr5 : r < 5 := by omega
          have HR1 := Lib.hid (show (y : Int).tmod 5 = (r : Int) ∧ (y : Int) % 5 = (r : Int) from tm_of (m := 5) hr)
          have HU8 := Lib.hid (wu_of (x := (r : Int)) rfl (by omega) (by omega))
          have hle := cutA_le xs i
          have hgive := fun hb => HM.out.1.give (s := (fun i => i)) hb (fun j hj h => by have h : j = i := h; omega) (by show i < 21; omega)
          have hskip := fun hb => HM.out.1.skip (s := (fun i => i)) hb
          obtain ⟨cA, hcAe⟩ : ∃ cA, cA = cutA xs i := ⟨_, rfl⟩
          obtain ⟨cN, hcNe⟩ : ∃ cN, cN = cutN xs i := ⟨_, rfl⟩
          have hgive : cutB xs i = true → giveB la 1000 (cA : Int) (cN : Int) = true ∧ Acc xs (fun i => i) (i + 1) (giveL la 1000 (cA : Int) (cN : Int)) := by rw [hcAe, hcNe]; exact hgive
          have hskip : cutB xs i = false → Acc xs (fun i => i) (i + 1) la := hskip
          rw [← hcAe] at hle
          have hcn2 : cN = r + 1 := by rw [hcNe, hcn]
          have a0' : w6.cell? ⟨g, i, none⟩ = some (.int .i64 (cutA xs i : Int)) := (H6.out.1 i (by omega)).1
          rw [← hcAe] at a0'
          have HS := Lib.hid (show ∀ W, Below w6.heap.size w6 W → W.cell? ⟨g, i, none⟩ = some (.int .i64 (cA : Int)) ∧ W.cell? (ad.add i) = some (.int .u8 (y : Int)) from fun W hW => ⟨(hW.cell (lt_of_cell a0')).trans a0', ((H6.out.2.1.trans (hW.mono H6.out.2.1.size)).cell (lt_of_cell hcell)).trans hcell⟩)
          have c0 := (HS.out _ BX.out).2
          have d0 := (HS.out _ BX.out).1
          have HSC := Lib.hid (wi2_of (r := r) (by omega))
          have hcN3 : (cN : Int) = (r : Int) + 1 := by omega
          rw [hcN3] at hgive
          have hj20 : i < len0 := by omega
          obtain ⟨q, hq⟩ : ∃ q : Nat, q = y % 3 := ⟨_, rfl⟩
          rw [← hq] at hcb
          have hq3 : q < 3 := by omega
          have HQ1 := Lib.hid (show (y : Int).tmod 3 = (q : Int) ∧ (y : Int) % 3 = (q : Int) from tm_of (m := 3) hq)
          clear hjl hcell hy hr hcn hcAe hcNe a0' hq
          by_cases hq0 : q = 0
          · subst hq0
            have HAC := Lib.hid (hskip (by rw [hcb]; rfl))
            clear hgive hskip hcb hcn2 hcN3
            have hq1 := imp_of HQ1.out.1
            have hq2 := imp_of HQ1.out.2
            go_wp2_with fail
            clear hq1 hq2
            go_roundw
            case rel => exact ⟨i + 1, t, c, A, la, by omega, rfl, by go_num, HAC.out, HM.out.2.1, HM.out.2.2, BX.out⟩
            case measure => simp [intOf]; omega
          · have hb : cutB xs i = true := by rw [hcb]; simpa using hq0
            have hg2 := hgive hb
            have gve := fun W h => give_any W A la t c HM.out.2.2 h (by have := HM.out.2.2; have := HM.out.1.len; omega) HM.out.1.wide 1000 (cA : Int) ((r : Int) + 1) (by omega) (by omega)
            rw [hg2.1] at gve
            have GVE := Lib.hid (fun W h => arg3_of (gve W h))
            have HAC := Lib.hid hg2.2
            have hq00 : ¬ ((q : Int) = 0) := by omega
            have hq01 : ((q : Int) == 0) = false := beq_false_of_ne hq00
            clear hgive hskip hcb hb hg2 gve hcn2 hcN3
            have hq1 := imp_of HQ1.out.1
            have hq2 := imp_of HQ1.out.2
            have hr1 := imp_of HR1.out.1
            have hr2 := imp_of HR1.out.2
            have hu8 := imp_of HU8.out
            go_wp2_with fail
            clear hq1 hq2 hq00 hq01
            refine wp_region_noPanic ?_
            refine wp_region_held_drew (S := fun _ => True) (by kernel_rfl) (trivial) (fun hHeld => ?_)
            refine wpAnyH_take (i := 0) (oi := ({ dst := some 67, op := Op.move (Operand.tmp 6), type := 22, pos := "law.go:108", after := #[], guard := none } : Oper)) (v := ?_) rfl (by kernel_rfl) (by kernel_rfl) (by kernel_rfl) (fun _ _ _ h => h) (Or.inl ⟨by rfl, ?_⟩) (by assumption) ?_
            rotate_left
            · (intro w hSw; (try dsimp only at hSw); go_simp) <;> with_reducible rfl
            (try simp only [Act.put, List.setIfInBounds_toArray, List.set_cons_zero, List.set_cons_succ])
            refine wpAnyH_take (i := 1) (oi := ({ dst := some 68, op := Op.move (Operand.tmp 8), type := 39, pos := "law.go:108", after := #[], guard := none } : Oper)) (v := ?_) rfl (by kernel_rfl) (by kernel_rfl) (by kernel_rfl) (fun _ _ _ h => h) (Or.inl ⟨by rfl, ?_⟩) (by assumption) ?_
            rotate_left
            · (intro w hSw; (try dsimp only at hSw); go_simp) <;> with_reducible rfl
            (try simp only [Act.put, List.setIfInBounds_toArray, List.set_cons_zero, List.set_cons_succ])
            refine wpAnyH_take (i := 2) (oi := ({ dst := some 69, op := Op.move (Operand.tmp 10), type := 3, pos := "law.go:108", after := #[], guard := none } : Oper)) (v := ?_) rfl (by kernel_rfl) (by kernel_rfl) (by kernel_rfl) (fun _ _ _ h => h) (Or.inl ⟨by rfl, ?_⟩) (by assumption) ?_
            rotate_left
            · (intro w hSw; (try dsimp only at hSw); go_simp) <;> with_reducible rfl
            (try simp only [Act.put, List.setIfInBounds_toArray, List.set_cons_zero, List.set_cons_succ])
            refine wpAnyH_take (i := 3) (oi := ({ dst := some 70, op := Op.indexAddr 39 (Operand.tmp 68) (Operand.tmp 69), type := 0, pos := "law.go:108", after := #[{ on := 1, ground := Ground.data }, { on := 2, ground := Ground.data }], guard := none } : Oper)) (v := ?_) rfl (by kernel_rfl) (by kernel_rfl) (by kernel_rfl) (fun _ _ _ h => h) (Or.inl ⟨by rfl, ?_⟩) (by assumption) ?_
            rotate_left
            · (intro w hSw; (try dsimp only at hSw); go_simp) <;> with_reducible rfl
            (try simp only [Act.put, List.setIfInBounds_toArray, List.set_cons_zero, List.set_cons_succ])
            refine wpAnyH_take (i := 5) (oi := ({ dst := some 72, op := Op.move (Operand.tmp 0), type := 38, pos := "law.go:108", after := #[], guard := none } : Oper)) (v := ?_) rfl (by kernel_rfl) (by kernel_rfl) (by kernel_rfl) (fun _ _ _ h => h) (Or.inl ⟨by rfl, ?_⟩) (by assumption) ?_
            rotate_left
            · (intro w hSw; (try dsimp only at hSw); go_simp) <;> with_reducible rfl
            (try simp only [Act.put, List.setIfInBounds_toArray, List.set_cons_zero, List.set_cons_succ])
            refine wpAnyH_take (i := 6) (oi := ({ dst := some 73, op := Op.move (Operand.tmp 10), type := 3, pos := "law.go:108", after := #[], guard := none } : Oper)) (v := ?_) rfl (by kernel_rfl) (by kernel_rfl) (by kernel_rfl) (fun _ _ _ h => h) (Or.inl ⟨by rfl, ?_⟩) (by assumption) ?_
            rotate_left
            · (intro w hSw; (try dsimp only at hSw); go_simp) <;> with_reducible rfl
            (try simp only [Act.put, List.setIfInBounds_toArray, List.set_cons_zero, List.set_cons_succ])
            refine wpAnyH_take (i := 7) (oi := ({ dst := some 74, op := Op.indexAddr 38 (Operand.tmp 72) (Operand.tmp 73), type := 0, pos := "law.go:108", after := #[{ on := 5, ground := Ground.data }, { on := 6, ground := Ground.data }], guard := none } : Oper)) (v := ?_) rfl (by kernel_rfl) (by kernel_rfl) (by kernel_rfl) (fun _ _ _ h => h) (Or.inl ⟨by rfl, ?_⟩) (by assumption) ?_
            rotate_left
            · (intro w hSw; (try dsimp only at hSw); go_simp) <;> with_reducible rfl
            (try simp only [Act.put, List.setIfInBounds_toArray, List.set_cons_zero, List.set_cons_succ])
            refine wpAnyH_ready (rs := [4, 8]) (by kernel_rfl) (by simp) ?_
            refine AllReadyH.cons (o := ({ dst := some 71, op := Op.load 3 (Operand.tmp 70), type := 3, pos := "law.go:108", after := #[{ on := 3, ground := Ground.data }], guard := none } : Oper)) rfl (fun K hK => ?_) ?_
            · go_simp
              refine hK.out _ _ ?_ (fun hHeld => ?_)
              · trivial
              clear hK K
              (try simp only [Act.put, List.setIfInBounds_toArray, List.set_cons_zero, List.set_cons_succ])
              refine wpAnyH_ready (rs := [8]) (by kernel_rfl) (by simp) ?_
              refine AllReadyH.cons (o := ({ dst := some 75, op := Op.load 5 (Operand.tmp 74), type := 5, pos := "law.go:108", after := #[{ on := 7, ground := Ground.data }], guard := none } : Oper)) rfl (fun K hK => ?_) ?_
              · go_simp
                refine hK.out _ _ ?_ (fun hHeld => ?_)
                · trivial
                clear hK K
                (try simp only [Act.put, List.setIfInBounds_toArray, List.set_cons_zero, List.set_cons_succ])
                refine wpAnyH_take (i := 9) (oi := ({ dst := some 76, op := Op.binOp BinOp.rem 5 (Operand.tmp 75) (Operand.const (Value.int IntKind.u8 5)) 5, type := 5, pos := "law.go:108", after := #[{ on := 8, ground := Ground.data }], guard := none } : Oper)) (v := ?_) rfl (by kernel_rfl) (by kernel_rfl) (by kernel_rfl) (fun _ _ _ h => h) (Or.inl ⟨by rfl, ?_⟩) (by assumption) ?_
                rotate_left
                · (intro w hSw; (try dsimp only at hSw); go_simp) <;> with_reducible rfl
                (try simp only [Act.put, List.setIfInBounds_toArray, List.set_cons_zero, List.set_cons_succ])
                refine wpAnyH_take (i := 10) (oi := ({ dst := some 77, op := Op.convert 5 3 (Operand.tmp 76), type := 3, pos := "law.go:108", after := #[{ on := 9, ground := Ground.data }], guard := none } : Oper)) (v := ?_) rfl (by kernel_rfl) (by kernel_rfl) (by kernel_rfl) (fun _ _ _ h => h) (Or.inl ⟨by rfl, ?_⟩) (by assumption) ?_
                rotate_left
                · (intro w hSw; (try dsimp only at hSw); go_simp) <;> with_reducible rfl
                (try simp only [Act.put, List.setIfInBounds_toArray, List.set_cons_zero, List.set_cons_succ])
                refine wpAnyH_take (i := 11) (oi := ({ dst := some 78, op := Op.binOp BinOp.add 3 (Operand.tmp 77) (Operand.const (Value.int IntKind.i64 1)) 3, type := 3, pos := "law.go:108", after := #[{ on := 10, ground := Ground.data }], guard := none } : Oper)) (v := ?_) rfl (by kernel_rfl) (by kernel_rfl) (by kernel_rfl) (fun _ _ _ h => h) (Or.inl ⟨by rfl, ?_⟩) (by assumption) ?_
                rotate_left
                · (intro w hSw; (try dsimp only at hSw); go_simp) <;> with_reducible rfl
                (try simp only [Act.put, List.setIfInBounds_toArray, List.set_cons_zero, List.set_cons_succ])
                refine wpAnyH_ready (rs := [12]) (by kernel_rfl) (by simp) ?_
                refine AllReadyH.cons (o := ({ dst := some 79, op := Op.call { callee := Callee.value (Operand.func 22), args := #[Operand.tmp 67, Operand.const (Value.int IntKind.i64 1000), Operand.tmp 71, Operand.tmp 78], argTypes := #[22, 3, 3, 3] }, type := 31, pos := "law.go:108", after := #[{ on := 0, ground := Ground.data }, { on := 4, ground := Ground.data }, { on := 11, ground := Ground.data }], guard := none } : Oper)) rfl (fun K hK => ?_) ?_
                · go_simp
                  refine (GVE.out _ HM.out.2.1.drew _ HSC.out).mono ?_
                  rintro e w8 ⟨A8, t8, c8, rfl, ht8, r8, b8⟩
                  have hB8 : Below w6.heap.size w6 w8 := below_call BX.out (below_drewL b8)
                  have R8 := Lib.hid (And.intro ht8 r8)
                  clear ht8 r8
                  go_wp2_with fail
                  refine hK.out _ _ ?_ (fun hHeld => ?_)
                  · trivial
                  clear hK K
                  (try simp only [Act.put, List.setIfInBounds_toArray, List.set_cons_zero, List.set_cons_succ])
                  refine wpAnyH_take (i := 13) (oi := ({ dst := some 66, op := Op.move (Operand.tmp 79), type := 31, pos := "law.go:108", after := #[{ on := 12, ground := Ground.data }], guard := none } : Oper)) (v := ?_) rfl (by kernel_rfl) (by kernel_rfl) (by kernel_rfl) (fun _ _ _ h => h) (Or.inl ⟨by rfl, ?_⟩) (by assumption) ?_
                  rotate_left
                  · (intro w hSw; (try dsimp only at hSw); go_simp) <;> with_reducible rfl
                  (try simp only [Act.put, List.setIfInBounds_toArray, List.set_cons_zero, List.set_cons_succ])
                  refine wpAnyH_take (i := 14) (oi := ({ dst := some 80, op := Op.extract (Operand.tmp 66) 0, type := 22, pos := "law.go:108", after := #[{ on := 13, ground := Ground.data }], guard := none } : Oper)) (v := ?_) rfl (by kernel_rfl) (by kernel_rfl) (by kernel_rfl) (fun _ _ _ h => h) (Or.inl ⟨by rfl, ?_⟩) (by assumption) ?_
                  rotate_left
                  · (intro w hSw; (try dsimp only at hSw); go_simp) <;> with_reducible rfl
                  (try simp only [Act.put, List.setIfInBounds_toArray, List.set_cons_zero, List.set_cons_succ])
                  refine wpAnyH_take (i := 15) (oi := ({ dst := some 81, op := Op.extract (Operand.tmp 66) 1, type := 4, pos := "law.go:108", after := #[{ on := 13, ground := Ground.data }, { on := 16, ground := Ground.gcOnly Departure.lateStores }], guard := none } : Oper)) (v := ?_) rfl (by kernel_rfl) (by kernel_rfl) (by kernel_rfl) (fun _ _ _ h => h) (Or.inl ⟨by rfl, ?_⟩) (by assumption) ?_
                  rotate_left
                  · (intro w hSw; (try dsimp only at hSw); go_simp) <;> with_reducible rfl
                  (try simp only [Act.put, List.setIfInBounds_toArray, List.set_cons_zero, List.set_cons_succ])
                  refine wpAnyH_take (i := 16) (oi := ({ dst := some 11, op := Op.assign (Operand.tmp 80), type := 22, pos := "law.go:108", after := #[{ on := 14, ground := Ground.data }, { on := 12, ground := Ground.chain }, { on := 0, ground := Ground.phase }, { on := 1, ground := Ground.phase }, { on := 2, ground := Ground.phase }, { on := 3, ground := Ground.phase }, { on := 4, ground := Ground.phase }, { on := 5, ground := Ground.phase }, { on := 6, ground := Ground.phase }, { on := 7, ground := Ground.phase }, { on := 8, ground := Ground.phase }, { on := 9, ground := Ground.phase }, { on := 10, ground := Ground.phase }, { on := 11, ground := Ground.phase }, { on := 12, ground := Ground.phase }, { on := 13, ground := Ground.phase }, { on := 14, ground := Ground.phase }, { on := 15, ground := Ground.textOnly Departure.lateStores }], guard := none } : Oper)) (v := ?_) rfl (by kernel_rfl) (by kernel_rfl) (by kernel_rfl) (fun _ _ _ h => h) (Or.inl ⟨by rfl, ?_⟩) (by assumption) ?_
                  rotate_left
                  · (intro w hSw; (try dsimp only at hSw); go_simp) <;> with_reducible rfl
                  (try simp only [Act.put, List.setIfInBounds_toArray, List.set_cons_zero, List.set_cons_succ])
                  refine wpAnyH_take (i := 17) (oi := ({ dst := some 12, op := Op.assign (Operand.tmp 81), type := 4, pos := "law.go:108", after := #[{ on := 15, ground := Ground.data }, { on := 16, ground := Ground.chain }, { on := 0, ground := Ground.phase }, { on := 1, ground := Ground.phase }, { on := 2, ground := Ground.phase }, { on := 3, ground := Ground.phase }, { on := 4, ground := Ground.phase }, { on := 5, ground := Ground.phase }, { on := 6, ground := Ground.phase }, { on := 7, ground := Ground.phase }, { on := 8, ground := Ground.phase }, { on := 9, ground := Ground.phase }, { on := 10, ground := Ground.phase }, { on := 11, ground := Ground.phase }, { on := 12, ground := Ground.phase }, { on := 13, ground := Ground.phase }, { on := 14, ground := Ground.phase }, { on := 15, ground := Ground.phase }, { on := 16, ground := Ground.phase }], guard := none } : Oper)) (v := ?_) rfl (by kernel_rfl) (by kernel_rfl) (by kernel_rfl) (fun _ _ _ h => h) (Or.inl ⟨by rfl, ?_⟩) (by assumption) ?_
                  rotate_left
                  · (intro w hSw; (try dsimp only at hSw); go_simp) <;> with_reducible rfl
                  (try simp only [Act.put, List.setIfInBounds_toArray, List.set_cons_zero, List.set_cons_succ])
                  refine wpAnyH_done (by kernel_rfl) ?_ _
                  refine NoPanic.normal ?_
                  go_wp2_with fail
                  clear hr1 hr2 hu8
                  go_roundw
                  case rel => exact ⟨i + 1, t8, c8, A8, _, by omega, rfl, by go_num, HAC.out, R8.out.2, R8.out.1, hB8⟩
                  case measure => simp [intOf]; omega
                exact AllReadyH.nil
              exact AllReadyH.nil
            refine AllReadyH.cons (o := ({ dst := some 75, op := Op.load 5 (Operand.tmp 74), type := 5, pos := "law.go:108", after := #[{ on := 7, ground := Ground.data }], guard := none } : Oper)) rfl (fun K hK => ?_) ?_
            · go_simp
              refine hK.out _ _ ?_ (fun hHeld => ?_)
              · trivial
              clear hK K
              (try simp only [Act.put, List.setIfInBounds_toArray, List.set_cons_zero, List.set_cons_succ])
              refine wpAnyH_take (i := 9) (oi := ({ dst := some 76, op := Op.binOp BinOp.rem 5 (Operand.tmp 75) (Operand.const (Value.int IntKind.u8 5)) 5, type := 5, pos := "law.go:108", after := #[{ on := 8, ground := Ground.data }], guard := none } : Oper)) (v := ?_) rfl (by kernel_rfl) (by kernel_rfl) (by kernel_rfl) (fun _ _ _ h => h) (Or.inl ⟨by rfl, ?_⟩) (by assumption) ?_
              rotate_left
              · (intro w hSw; (try dsimp only at hSw); go_simp) <;> with_reducible rfl
              (try simp only [Act.put, List.setIfInBounds_toArray, List.set_cons_zero, List.set_cons_succ])
              refine wpAnyH_take (i := 10) (oi := ({ dst := some 77, op := Op.convert 5 3 (Operand.tmp 76), type := 3, pos := "law.go:108", after := #[{ on := 9, ground := Ground.data }], guard := none } : Oper)) (v := ?_) rfl (by kernel_rfl) (by kernel_rfl) (by kernel_rfl) (fun _ _ _ h => h) (Or.inl ⟨by rfl, ?_⟩) (by assumption) ?_
              rotate_left
              · (intro w hSw; (try dsimp only at hSw); go_simp) <;> with_reducible rfl
              (try simp only [Act.put, List.setIfInBounds_toArray, List.set_cons_zero, List.set_cons_succ])
              refine wpAnyH_take (i := 11) (oi := ({ dst := some 78, op := Op.binOp BinOp.add 3 (Operand.tmp 77) (Operand.const (Value.int IntKind.i64 1)) 3, type := 3, pos := "law.go:108", after := #[{ on := 10, ground := Ground.data }], guard := none } : Oper)) (v := ?_) rfl (by kernel_rfl) (by kernel_rfl) (by kernel_rfl) (fun _ _ _ h => h) (Or.inl ⟨by rfl, ?_⟩) (by assumption) ?_
              rotate_left
              · (intro w hSw; (try dsimp only at hSw); go_simp) <;> with_reducible rfl
              (try simp only [Act.put, List.setIfInBounds_toArray, List.set_cons_zero, List.set_cons_succ])
              refine wpAnyH_ready (rs := [4]) (by kernel_rfl) (by simp) ?_
              refine AllReadyH.cons (o := ({ dst := some 71, op := Op.load 3 (Operand.tmp 70), type := 3, pos := "law.go:108", after := #[{ on := 3, ground := Ground.data }], guard := none } : Oper)) rfl (fun K hK => ?_) ?_
              · go_simp
                refine hK.out _ _ ?_ (fun hHeld => ?_)
                · trivial
                clear hK K
                (try simp only [Act.put, List.setIfInBounds_toArray, List.set_cons_zero, List.set_cons_succ])
                refine wpAnyH_ready (rs := [12]) (by kernel_rfl) (by simp) ?_
                refine AllReadyH.cons (o := ({ dst := some 79, op := Op.call { callee := Callee.value (Operand.func 22), args := #[Operand.tmp 67, Operand.const (Value.int IntKind.i64 1000), Operand.tmp 71, Operand.tmp 78], argTypes := #[22, 3, 3, 3] }, type := 31, pos := "law.go:108", after := #[{ on := 0, ground := Ground.data }, { on := 4, ground := Ground.data }, { on := 11, ground := Ground.data }], guard := none } : Oper)) rfl (fun K hK => ?_) ?_
                · go_simp
                  refine (GVE.out _ HM.out.2.1.drew _ HSC.out).mono ?_
                  rintro e w8 ⟨A8, t8, c8, rfl, ht8, r8, b8⟩
                  have hB8 : Below w6.heap.size w6 w8 := below_call BX.out (below_drewL b8)
                  have R8 := Lib.hid (And.intro ht8 r8)
                  clear ht8 r8
                  go_wp2_with fail
                  refine hK.out _ _ ?_ (fun hHeld => ?_)
                  · trivial
                  clear hK K
                  (try simp only [Act.put, List.setIfInBounds_toArray, List.set_cons_zero, List.set_cons_succ])
                  refine wpAnyH_take (i := 13) (oi := ({ dst := some 66, op := Op.move (Operand.tmp 79), type := 31, pos := "law.go:108", after := #[{ on := 12, ground := Ground.data }], guard := none } : Oper)) (v := ?_) rfl (by kernel_rfl) (by kernel_rfl) (by kernel_rfl) (fun _ _ _ h => h) (Or.inl ⟨by rfl, ?_⟩) (by assumption) ?_
                  rotate_left
                  · (intro w hSw; (try dsimp only at hSw); go_simp) <;> with_reducible rfl
                  (try simp only [Act.put, List.setIfInBounds_toArray, List.set_cons_zero, List.set_cons_succ])
                  refine wpAnyH_take (i := 14) (oi := ({ dst := some 80, op := Op.extract (Operand.tmp 66) 0, type := 22, pos := "law.go:108", after := #[{ on := 13, ground := Ground.data }], guard := none } : Oper)) (v := ?_) rfl (by kernel_rfl) (by kernel_rfl) (by kernel_rfl) (fun _ _ _ h => h) (Or.inl ⟨by rfl, ?_⟩) (by assumption) ?_
                  rotate_left
                  · (intro w hSw; (try dsimp only at hSw); go_simp) <;> with_reducible rfl
                  (try simp only [Act.put, List.setIfInBounds_toArray, List.set_cons_zero, List.set_cons_succ])
                  refine wpAnyH_take (i := 15) (oi := ({ dst := some 81, op := Op.extract (Operand.tmp 66) 1, type := 4, pos := "law.go:108", after := #[{ on := 13, ground := Ground.data }, { on := 16, ground := Ground.gcOnly Departure.lateStores }], guard := none } : Oper)) (v := ?_) rfl (by kernel_rfl) (by kernel_rfl) (by kernel_rfl) (fun _ _ _ h => h) (Or.inl ⟨by rfl, ?_⟩) (by assumption) ?_
                  rotate_left
                  · (intro w hSw; (try dsimp only at hSw); go_simp) <;> with_reducible rfl
                  (try simp only [Act.put, List.setIfInBounds_toArray, List.set_cons_zero, List.set_cons_succ])
                  refine wpAnyH_take (i := 16) (oi := ({ dst := some 11, op := Op.assign (Operand.tmp 80), type := 22, pos := "law.go:108", after := #[{ on := 14, ground := Ground.data }, { on := 12, ground := Ground.chain }, { on := 0, ground := Ground.phase }, { on := 1, ground := Ground.phase }, { on := 2, ground := Ground.phase }, { on := 3, ground := Ground.phase }, { on := 4, ground := Ground.phase }, { on := 5, ground := Ground.phase }, { on := 6, ground := Ground.phase }, { on := 7, ground := Ground.phase }, { on := 8, ground := Ground.phase }, { on := 9, ground := Ground.phase }, { on := 10, ground := Ground.phase }, { on := 11, ground := Ground.phase }, { on := 12, ground := Ground.phase }, { on := 13, ground := Ground.phase }, { on := 14, ground := Ground.phase }, { on := 15, ground := Ground.textOnly Departure.lateStores }], guard := none } : Oper)) (v := ?_) rfl (by kernel_rfl) (by kernel_rfl) (by kernel_rfl) (fun _ _ _ h => h) (Or.inl ⟨by rfl, ?_⟩) (by assumption) ?_
                  rotate_left
                  · (intro w hSw; (try dsimp only at hSw); go_simp) <;> with_reducible rfl
                  (try simp only [Act.put, List.setIfInBounds_toArray, List.set_cons_zero, List.set_cons_succ])
                  refine wpAnyH_take (i := 17) (oi := ({ dst := some 12, op := Op.assign (Operand.tmp 81), type := 4, pos := "law.go:108", after := #[{ on := 15, ground := Ground.data }, { on := 16, ground := Ground.chain }, { on := 0, ground := Ground.phase }, { on := 1, ground := Ground.phase }, { on := 2, ground := Ground.phase }, { on := 3, ground := Ground.phase }, { on := 4, ground := Ground.phase }, { on := 5, ground := Ground.phase }, { on := 6, ground := Ground.phase }, { on := 7, ground := Ground.phase }, { on := 8, ground := Ground.phase }, { on := 9, ground := Ground.phase }, { on := 10, ground := Ground.phase }, { on := 11, ground := Ground.phase }, { on := 12, ground := Ground.phase }, { on := 13, ground := Ground.phase }, { on := 14, ground := Ground.phase }, { on := 15, ground := Ground.phase }, { on := 16, ground := Ground.phase }], guard := none } : Oper)) (v := ?_) rfl (by kernel_rfl) (by kernel_rfl) (by kernel_rfl) (fun _ _ _ h => h) (Or.inl ⟨by rfl, ?_⟩) (by assumption) ?_
                  rotate_left
                  · (intro w hSw; (try dsimp only at hSw); go_simp) <;> with_reducible rfl
                  (try simp only [Act.put, List.setIfInBounds_toArray, List.set_cons_zero, List.set_cons_succ])
                  refine wpAnyH_done (by kernel_rfl) ?_ _
                  refine NoPanic.normal ?_
                  go_wp2_with fail
                  clear hr1 hr2 hu8
                  go_roundw
                  case rel => exact ⟨i + 1, t8, c8, A8, _, by omega, rfl, by go_num, HAC.out, R8.out.2, R8.out.1, hB8⟩
                  case measure => simp [intOf]; omega
                exact AllReadyH.nil
              exact AllReadyH.nil
            exact AllReadyH.nil
        · have hie : i = len0 := by omega
          rw [hie] at HM
          obtain ⟨w7, hw7⟩ : ∃ w7, w7 = wr := ⟨_, rfl⟩
          rw [← hw7] at BX HM ⊢
          have H7 := Lib.hid (And.intro HM.out (And.intro (H6.out.2.1.trans (BX.out.mono H6.out.2.1.size)) BX.out))
          clear hie hw7 HM BX
          go_wp2_with fail
          clear hi hlt
          go_loopw [7, 13] (fun v i wr => ∃ (i' t2 c2 : Nat) (A2 : Option Addr) (lb : List M.R), i' ≤ len0 ∧ v = .slice A2 t2 c2 ∧ i = .int .i64 (i' : Int) ∧ Acc xs (turnTo len0 tn) i' lb ∧ Runs wr A2 lb ∧ t2 = lb.length ∧ Below w7.heap.size w7 wr) (fun v i _ => len0 - (intOf i).toNat)
          case atStart => exact ⟨0, 0, 0, none, [], by omega, rfl, rfl, Acc.zero xs _, Runs.nil, rfl, Below.refl _ _⟩
          case round =>
            obtain ⟨i2, t2, c2, A2, lb, hi2, rfl, rfl, hacc, hrun, ht2, bx⟩ := hrel
            have BX := Lib.hid bx
            have HM := Lib.hid (And.intro hacc (And.intro hrun ht2))
            clear bx hacc hrun ht2
            by_cases hlt2 : i2 < len0
            · obtain ⟨x, hx⟩ : ∃ x, x = turnTo len0 tn i2 := ⟨_, rfl⟩
              have hx20 : x < len0 := by rw [hx]; exact turnTo_lt hlt2
              have hgive := fun hb => HM.out.1.give (i := i2) hb (fun j hj h => absurd (turnTo_inj (by omega) (by omega) hlt2 h) (by omega)) (by rw [← hx]; omega)
              have hskip := fun hb => HM.out.1.skip (i := i2) hb
              rw [← hx] at hgive hskip
              have hjl : x < xs.length := by have := HX.out.1; omega
              have hcell := HCX.out x hjl
              obtain ⟨y, hy⟩ : ∃ y : Nat, y = (xs.getD x 0).toNat := ⟨_, rfl⟩
              have hy256 : y < 256 := by rw [hy]; exact (xs.getD x 0).toNat_lt
              obtain ⟨r, hr⟩ : ∃ r : Nat, r = y % 5 := ⟨_, rfl⟩
              have hcn : cutN xs x = r + 1 := by rw [cutN, ← hy, hr]
              have hcb : cutB xs x = decide (y % 3 ≠ 0) := by rw [cutB, ← hy]
              rw [← hy] at hcell
              have hr5 : r < 5 := by omega
              have HR1 := Lib.hid (show (y : Int).tmod 5 = (r : Int) ∧ (y : Int) % 5 = (r : Int) from tm_of (m := 5) hr)
              have HU8 := Lib.hid (wu_of (x := (r : Int)) rfl (by omega) (by omega))
              have hle := cutA_le xs x
              obtain ⟨cA, hcAe⟩ : ∃ cA, cA = cutA xs x := ⟨_, rfl⟩
              obtain ⟨cN, hcNe⟩ : ∃ cN, cN = cutN xs x := ⟨_, rfl⟩
              rw [← hcAe, ← hcNe] at hgive
              rw [← hcAe] at hle
              have hcN3 : (cN : Int) = (r : Int) + 1 := by rw [hcNe, hcn]; omega
              rw [hcN3] at hgive
              have a0' : w6.cell? ⟨g, x, none⟩ = some (.int .i64 (cutA xs x : Int)) := (H6.out.1 x hx20).1
              rw [← hcAe] at a0'
              have HS := Lib.hid (show ∀ W, Below w7.heap.size w7 W → W.cell? ⟨g, x, none⟩ = some (.int .i64 (cA : Int)) ∧ W.cell? (ad.add x) = some (.int .u8 (y : Int)) from fun W hW => by
                have h6 : Below w6.heap.size w6 W := below_call H7.out.2.2 hW
                exact ⟨(h6.cell (lt_of_cell a0')).trans a0', ((below_call H6.out.2.1 h6).cell (lt_of_cell hcell)).trans hcell⟩)
              have c0 := (HS.out _ BX.out).2
              have d0 := (HS.out _ BX.out).1
              have HSC := Lib.hid (wi2_of (r := r) (by omega))
              obtain ⟨q, hq⟩ : ∃ q : Nat, q = y % 3 := ⟨_, rfl⟩
              rw [← hq] at hcb
              have hq3 : q < 3 := by omega
              have HQ1 := Lib.hid (show (y : Int).tmod 3 = (q : Int) ∧ (y : Int) % 3 = (q : Int) from tm_of (m := 3) hq)
              obtain ⟨e7, he7⟩ : ∃ e7 : Nat, e7 = len0 % 7 := ⟨_, rfl⟩
              have HE7 := Lib.hid (show (len0 : Int).tmod 7 = (e7 : Int) ∧ (len0 : Int) % 7 = (e7 : Int) from tm_of (m := 7) he7)
              obtain ⟨s7, hs7⟩ : ∃ s7 : Nat, s7 = i2 * 7 + tn := ⟨_, rfl⟩
              obtain ⟨x0, hx0⟩ : ∃ x0 : Nat, x0 = s7 % len0 := ⟨_, rfl⟩
              have htm := tm_of (m := len0) hx0
              rw [show (s7 : Int) = (i2 : Int) * 7 + (tn : Int) by omega] at htm
              have HX0 := Lib.hid htm
              have hx00 : x0 < len0 := by rw [hx0]; exact Nat.mod_lt _ (by omega)
              have HX1 := Lib.hid (show e7 = 0 → (len0 : Int) - 1 - (i2 : Int) = (x : Int) from fun h7 => by rw [hx, turnTo, if_pos (by omega)]; omega)
              have HXX := Lib.hid (show e7 ≠ 0 → x0 = x from fun h7 => by rw [hx0, hx, turnTo, if_neg (by omega), hs7])
              clear hjl hcell hy hr hcn hcAe hcNe a0' hq hx hs7 hx0 he7 hcN3 hle htm
              by_cases h7 : e7 = 0
              · subst h7
                have hxe := HX1.out rfl
                by_cases hq0 : q = 0
                · subst hq0
                  have HAC := Lib.hid (hskip (by rw [hcb]; rfl))
                  clear hgive hskip hcb
                  have x70 := imp_of HX0.out.1
                  have x71 := imp_of HX0.out.2
                  have e70 := imp_of HE7.out.1
                  have e71 := imp_of HE7.out.2
                  have hq1 := imp_of HQ1.out.1
                  have hq2 := imp_of HQ1.out.2
                  go_wp2_with fail
                  clear hq1 hq2 x70 x71 e70 e71
                  go_roundw
                  case rel => exact ⟨i2 + 1, t2, c2, A2, lb, by omega, rfl, by go_num, HAC.out, HM.out.2.1, HM.out.2.2, BX.out⟩
                  case measure => simp [intOf]; omega
                · have hb : cutB xs x = true := by rw [hcb]; simpa using hq0
                  have hg2 := hgive hb
                  have gve := fun W h => give_any W A2 lb t2 c2 HM.out.2.2 h (by have := HM.out.2.2; have := HM.out.1.len; omega) HM.out.1.wide 1000 (cA : Int) ((r : Int) + 1) (by omega) (by omega)
                  rw [hg2.1] at gve
                  have GVE := Lib.hid (fun W h => arg3_of (gve W h))
                  have HAC := Lib.hid hg2.2
                  have hq00 : ¬ ((q : Int) = 0) := by omega
                  have hq01 : ((q : Int) == 0) = false := beq_false_of_ne hq00
                  clear hgive hskip hcb hb hg2 gve
                  have x70 := imp_of HX0.out.1
                  have x71 := imp_of HX0.out.2
                  have e70 := imp_of HE7.out.1
                  have e71 := imp_of HE7.out.2
                  have hq1 := imp_of HQ1.out.1
                  have hq2 := imp_of HQ1.out.2
                  have hr1 := imp_of HR1.out.1
                  have hr2 := imp_of HR1.out.2
                  have hu8 := imp_of HU8.out
                  go_wp2_with fail
                  refine wp_region_noPanic ?_
                  refine wp_region_held_drew (S := fun _ => True) (by kernel_rfl) (trivial) (fun hHeld => ?_)
                  refine wpAnyH_take (i := 0) (oi := ({ dst := some 115, op := Op.move (Operand.tmp 7), type := 22, pos := "law.go:122", after := #[], guard := none } : Oper)) (v := ?_) rfl (by kernel_rfl) (by kernel_rfl) (by kernel_rfl) (fun _ _ _ h => h) (Or.inl ⟨by rfl, ?_⟩) (by assumption) ?_
                  rotate_left
                  · (intro w hSw; (try dsimp only at hSw); go_simp) <;> with_reducible rfl
                  (try simp only [Act.put, List.setIfInBounds_toArray, List.set_cons_zero, List.set_cons_succ])
                  refine wpAnyH_take (i := 1) (oi := ({ dst := some 116, op := Op.move (Operand.tmp 8), type := 39, pos := "law.go:122", after := #[], guard := none } : Oper)) (v := ?_) rfl (by kernel_rfl) (by kernel_rfl) (by kernel_rfl) (fun _ _ _ h => h) (Or.inl ⟨by rfl, ?_⟩) (by assumption) ?_
                  rotate_left
                  · (intro w hSw; (try dsimp only at hSw); go_simp) <;> with_reducible rfl
                  (try simp only [Act.put, List.setIfInBounds_toArray, List.set_cons_zero, List.set_cons_succ])
                  refine wpAnyH_take (i := 2) (oi := ({ dst := some 117, op := Op.move (Operand.tmp 14), type := 3, pos := "law.go:122", after := #[], guard := none } : Oper)) (v := ?_) rfl (by kernel_rfl) (by kernel_rfl) (by kernel_rfl) (fun _ _ _ h => h) (Or.inl ⟨by rfl, ?_⟩) (by assumption) ?_
                  rotate_left
                  · (intro w hSw; (try dsimp only at hSw); go_simp) <;> with_reducible rfl
                  (try simp only [Act.put, List.setIfInBounds_toArray, List.set_cons_zero, List.set_cons_succ])
                  refine wpAnyH_take (i := 3) (oi := ({ dst := some 118, op := Op.indexAddr 39 (Operand.tmp 116) (Operand.tmp 117), type := 0, pos := "law.go:122", after := #[{ on := 1, ground := Ground.data }, { on := 2, ground := Ground.data }], guard := none } : Oper)) (v := ?_) rfl (by kernel_rfl) (by kernel_rfl) (by kernel_rfl) (fun _ _ _ h => h) (Or.inl ⟨by rfl, ?_⟩) (by assumption) ?_
                  rotate_left
                  · (intro w hSw; (try dsimp only at hSw); go_simp) <;> with_reducible rfl
                  (try simp only [Act.put, List.setIfInBounds_toArray, List.set_cons_zero, List.set_cons_succ])
                  refine wpAnyH_take (i := 5) (oi := ({ dst := some 120, op := Op.move (Operand.tmp 0), type := 38, pos := "law.go:122", after := #[], guard := none } : Oper)) (v := ?_) rfl (by kernel_rfl) (by kernel_rfl) (by kernel_rfl) (fun _ _ _ h => h) (Or.inl ⟨by rfl, ?_⟩) (by assumption) ?_
                  rotate_left
                  · (intro w hSw; (try dsimp only at hSw); go_simp) <;> with_reducible rfl
                  (try simp only [Act.put, List.setIfInBounds_toArray, List.set_cons_zero, List.set_cons_succ])
                  refine wpAnyH_take (i := 6) (oi := ({ dst := some 121, op := Op.move (Operand.tmp 14), type := 3, pos := "law.go:122", after := #[], guard := none } : Oper)) (v := ?_) rfl (by kernel_rfl) (by kernel_rfl) (by kernel_rfl) (fun _ _ _ h => h) (Or.inl ⟨by rfl, ?_⟩) (by assumption) ?_
                  rotate_left
                  · (intro w hSw; (try dsimp only at hSw); go_simp) <;> with_reducible rfl
                  (try simp only [Act.put, List.setIfInBounds_toArray, List.set_cons_zero, List.set_cons_succ])
                  refine wpAnyH_take (i := 7) (oi := ({ dst := some 122, op := Op.indexAddr 38 (Operand.tmp 120) (Operand.tmp 121), type := 0, pos := "law.go:122", after := #[{ on := 5, ground := Ground.data }, { on := 6, ground := Ground.data }], guard := none } : Oper)) (v := ?_) rfl (by kernel_rfl) (by kernel_rfl) (by kernel_rfl) (fun _ _ _ h => h) (Or.inl ⟨by rfl, ?_⟩) (by assumption) ?_
                  rotate_left
                  · (intro w hSw; (try dsimp only at hSw); go_simp) <;> with_reducible rfl
                  (try simp only [Act.put, List.setIfInBounds_toArray, List.set_cons_zero, List.set_cons_succ])
                  refine wpAnyH_ready (rs := [4, 8]) (by kernel_rfl) (by simp) ?_
                  refine AllReadyH.cons (o := ({ dst := some 119, op := Op.load 3 (Operand.tmp 118), type := 3, pos := "law.go:122", after := #[{ on := 3, ground := Ground.data }], guard := none } : Oper)) rfl (fun K hK => ?_) ?_
                  · go_simp
                    refine hK.out _ _ ?_ (fun hHeld => ?_)
                    · trivial
                    clear hK K
                    (try simp only [Act.put, List.setIfInBounds_toArray, List.set_cons_zero, List.set_cons_succ])
                    refine wpAnyH_ready (rs := [8]) (by kernel_rfl) (by simp) ?_
                    refine AllReadyH.cons (o := ({ dst := some 123, op := Op.load 5 (Operand.tmp 122), type := 5, pos := "law.go:122", after := #[{ on := 7, ground := Ground.data }], guard := none } : Oper)) rfl (fun K hK => ?_) ?_
                    · go_simp
                      refine hK.out _ _ ?_ (fun hHeld => ?_)
                      · trivial
                      clear hK K
                      (try simp only [Act.put, List.setIfInBounds_toArray, List.set_cons_zero, List.set_cons_succ])
                      refine wpAnyH_take (i := 9) (oi := ({ dst := some 124, op := Op.binOp BinOp.rem 5 (Operand.tmp 123) (Operand.const (Value.int IntKind.u8 5)) 5, type := 5, pos := "law.go:122", after := #[{ on := 8, ground := Ground.data }], guard := none } : Oper)) (v := ?_) rfl (by kernel_rfl) (by kernel_rfl) (by kernel_rfl) (fun _ _ _ h => h) (Or.inl ⟨by rfl, ?_⟩) (by assumption) ?_
                      rotate_left
                      · (intro w hSw; (try dsimp only at hSw); go_simp) <;> with_reducible rfl
                      (try simp only [Act.put, List.setIfInBounds_toArray, List.set_cons_zero, List.set_cons_succ])
                      refine wpAnyH_take (i := 10) (oi := ({ dst := some 125, op := Op.convert 5 3 (Operand.tmp 124), type := 3, pos := "law.go:122", after := #[{ on := 9, ground := Ground.data }], guard := none } : Oper)) (v := ?_) rfl (by kernel_rfl) (by kernel_rfl) (by kernel_rfl) (fun _ _ _ h => h) (Or.inl ⟨by rfl, ?_⟩) (by assumption) ?_
                      rotate_left
                      · (intro w hSw; (try dsimp only at hSw); go_simp) <;> with_reducible rfl
                      (try simp only [Act.put, List.setIfInBounds_toArray, List.set_cons_zero, List.set_cons_succ])
                      refine wpAnyH_take (i := 11) (oi := ({ dst := some 126, op := Op.binOp BinOp.add 3 (Operand.tmp 125) (Operand.const (Value.int IntKind.i64 1)) 3, type := 3, pos := "law.go:122", after := #[{ on := 10, ground := Ground.data }], guard := none } : Oper)) (v := ?_) rfl (by kernel_rfl) (by kernel_rfl) (by kernel_rfl) (fun _ _ _ h => h) (Or.inl ⟨by rfl, ?_⟩) (by assumption) ?_
                      rotate_left
                      · (intro w hSw; (try dsimp only at hSw); go_simp) <;> with_reducible rfl
                      (try simp only [Act.put, List.setIfInBounds_toArray, List.set_cons_zero, List.set_cons_succ])
                      refine wpAnyH_ready (rs := [12]) (by kernel_rfl) (by simp) ?_
                      refine AllReadyH.cons (o := ({ dst := some 127, op := Op.call { callee := Callee.value (Operand.func 22), args := #[Operand.tmp 115, Operand.const (Value.int IntKind.i64 1000), Operand.tmp 119, Operand.tmp 126], argTypes := #[22, 3, 3, 3] }, type := 31, pos := "law.go:122", after := #[{ on := 0, ground := Ground.data }, { on := 4, ground := Ground.data }, { on := 11, ground := Ground.data }], guard := none } : Oper)) rfl (fun K hK => ?_) ?_
                      · go_simp
                        refine (GVE.out _ HM.out.2.1.drew _ HSC.out).mono ?_
                        rintro e w8 ⟨A8, t8, c8, rfl, ht8, r8, b8⟩
                        have hB8 : Below w7.heap.size w7 w8 := below_call BX.out (below_drewL b8)
                        have R8 := Lib.hid (And.intro ht8 r8)
                        clear ht8 r8
                        go_wp2_with fail
                        refine hK.out _ _ ?_ (fun hHeld => ?_)
                        · trivial
                        clear hK K
                        (try simp only [Act.put, List.setIfInBounds_toArray, List.set_cons_zero, List.set_cons_succ])
                        refine wpAnyH_take (i := 13) (oi := ({ dst := some 114, op := Op.move (Operand.tmp 127), type := 31, pos := "law.go:122", after := #[{ on := 12, ground := Ground.data }], guard := none } : Oper)) (v := ?_) rfl (by kernel_rfl) (by kernel_rfl) (by kernel_rfl) (fun _ _ _ h => h) (Or.inl ⟨by rfl, ?_⟩) (by assumption) ?_
                        rotate_left
                        · (intro w hSw; (try dsimp only at hSw); go_simp) <;> with_reducible rfl
                        (try simp only [Act.put, List.setIfInBounds_toArray, List.set_cons_zero, List.set_cons_succ])
                        refine wpAnyH_take (i := 14) (oi := ({ dst := some 128, op := Op.extract (Operand.tmp 114) 0, type := 22, pos := "law.go:122", after := #[{ on := 13, ground := Ground.data }], guard := none } : Oper)) (v := ?_) rfl (by kernel_rfl) (by kernel_rfl) (by kernel_rfl) (fun _ _ _ h => h) (Or.inl ⟨by rfl, ?_⟩) (by assumption) ?_
                        rotate_left
                        · (intro w hSw; (try dsimp only at hSw); go_simp) <;> with_reducible rfl
                        (try simp only [Act.put, List.setIfInBounds_toArray, List.set_cons_zero, List.set_cons_succ])
                        refine wpAnyH_take (i := 15) (oi := ({ dst := some 129, op := Op.extract (Operand.tmp 114) 1, type := 4, pos := "law.go:122", after := #[{ on := 13, ground := Ground.data }, { on := 16, ground := Ground.gcOnly Departure.lateStores }], guard := none } : Oper)) (v := ?_) rfl (by kernel_rfl) (by kernel_rfl) (by kernel_rfl) (fun _ _ _ h => h) (Or.inl ⟨by rfl, ?_⟩) (by assumption) ?_
                        rotate_left
                        · (intro w hSw; (try dsimp only at hSw); go_simp) <;> with_reducible rfl
                        (try simp only [Act.put, List.setIfInBounds_toArray, List.set_cons_zero, List.set_cons_succ])
                        refine wpAnyH_take (i := 16) (oi := ({ dst := some 15, op := Op.assign (Operand.tmp 128), type := 22, pos := "law.go:122", after := #[{ on := 14, ground := Ground.data }, { on := 12, ground := Ground.chain }, { on := 0, ground := Ground.phase }, { on := 1, ground := Ground.phase }, { on := 2, ground := Ground.phase }, { on := 3, ground := Ground.phase }, { on := 4, ground := Ground.phase }, { on := 5, ground := Ground.phase }, { on := 6, ground := Ground.phase }, { on := 7, ground := Ground.phase }, { on := 8, ground := Ground.phase }, { on := 9, ground := Ground.phase }, { on := 10, ground := Ground.phase }, { on := 11, ground := Ground.phase }, { on := 12, ground := Ground.phase }, { on := 13, ground := Ground.phase }, { on := 14, ground := Ground.phase }, { on := 15, ground := Ground.textOnly Departure.lateStores }], guard := none } : Oper)) (v := ?_) rfl (by kernel_rfl) (by kernel_rfl) (by kernel_rfl) (fun _ _ _ h => h) (Or.inl ⟨by rfl, ?_⟩) (by assumption) ?_
                        rotate_left
                        · (intro w hSw; (try dsimp only at hSw); go_simp) <;> with_reducible rfl
                        (try simp only [Act.put, List.setIfInBounds_toArray, List.set_cons_zero, List.set_cons_succ])
                        refine wpAnyH_take (i := 17) (oi := ({ dst := some 16, op := Op.assign (Operand.tmp 129), type := 4, pos := "law.go:122", after := #[{ on := 15, ground := Ground.data }, { on := 16, ground := Ground.chain }, { on := 0, ground := Ground.phase }, { on := 1, ground := Ground.phase }, { on := 2, ground := Ground.phase }, { on := 3, ground := Ground.phase }, { on := 4, ground := Ground.phase }, { on := 5, ground := Ground.phase }, { on := 6, ground := Ground.phase }, { on := 7, ground := Ground.phase }, { on := 8, ground := Ground.phase }, { on := 9, ground := Ground.phase }, { on := 10, ground := Ground.phase }, { on := 11, ground := Ground.phase }, { on := 12, ground := Ground.phase }, { on := 13, ground := Ground.phase }, { on := 14, ground := Ground.phase }, { on := 15, ground := Ground.phase }, { on := 16, ground := Ground.phase }], guard := none } : Oper)) (v := ?_) rfl (by kernel_rfl) (by kernel_rfl) (by kernel_rfl) (fun _ _ _ h => h) (Or.inl ⟨by rfl, ?_⟩) (by assumption) ?_
                        rotate_left
                        · (intro w hSw; (try dsimp only at hSw); go_simp) <;> with_reducible rfl
                        (try simp only [Act.put, List.setIfInBounds_toArray, List.set_cons_zero, List.set_cons_succ])
                        refine wpAnyH_done (by kernel_rfl) ?_ _
                        refine NoPanic.normal ?_
                        go_wp2_with fail
                        refine (right_any _ A8 _ t8 c8 R8.out.1 R8.out.2 (by have := R8.out.1; have := HAC.out.len; omega) 1000 (by omega)).mono ?_
                        rintro e w9 ⟨rfl, b9⟩
                        rw [(M.okB_iff _ _ _).2 HAC.out.ok]
                        have R9 := Lib.hid (And.intro (R8.out.2.below b9) (below_call hB8 b9))
                        clear b9
                        go_wp2_with fail
                        clear hr1 hr2 hu8
                        go_roundw
                        case rel => exact ⟨i2 + 1, t8, c8, A8, _, by omega, rfl, by go_num, HAC.out, R9.out.1, R8.out.1, R9.out.2⟩
                        case measure => simp [intOf]; omega
                      exact AllReadyH.nil
                    exact AllReadyH.nil
                  refine AllReadyH.cons (o := ({ dst := some 123, op := Op.load 5 (Operand.tmp 122), type := 5, pos := "law.go:122", after := #[{ on := 7, ground := Ground.data }], guard := none } : Oper)) rfl (fun K hK => ?_) ?_
                  · go_simp
                    refine hK.out _ _ ?_ (fun hHeld => ?_)
                    · trivial
                    clear hK K
                    (try simp only [Act.put, List.setIfInBounds_toArray, List.set_cons_zero, List.set_cons_succ])
                    refine wpAnyH_take (i := 9) (oi := ({ dst := some 124, op := Op.binOp BinOp.rem 5 (Operand.tmp 123) (Operand.const (Value.int IntKind.u8 5)) 5, type := 5, pos := "law.go:122", after := #[{ on := 8, ground := Ground.data }], guard := none } : Oper)) (v := ?_) rfl (by kernel_rfl) (by kernel_rfl) (by kernel_rfl) (fun _ _ _ h => h) (Or.inl ⟨by rfl, ?_⟩) (by assumption) ?_
                    rotate_left
                    · (intro w hSw; (try dsimp only at hSw); go_simp) <;> with_reducible rfl
                    (try simp only [Act.put, List.setIfInBounds_toArray, List.set_cons_zero, List.set_cons_succ])
                    refine wpAnyH_take (i := 10) (oi := ({ dst := some 125, op := Op.convert 5 3 (Operand.tmp 124), type := 3, pos := "law.go:122", after := #[{ on := 9, ground := Ground.data }], guard := none } : Oper)) (v := ?_) rfl (by kernel_rfl) (by kernel_rfl) (by kernel_rfl) (fun _ _ _ h => h) (Or.inl ⟨by rfl, ?_⟩) (by assumption) ?_
                    rotate_left
                    · (intro w hSw; (try dsimp only at hSw); go_simp) <;> with_reducible rfl
                    (try simp only [Act.put, List.setIfInBounds_toArray, List.set_cons_zero, List.set_cons_succ])
                    refine wpAnyH_take (i := 11) (oi := ({ dst := some 126, op := Op.binOp BinOp.add 3 (Operand.tmp 125) (Operand.const (Value.int IntKind.i64 1)) 3, type := 3, pos := "law.go:122", after := #[{ on := 10, ground := Ground.data }], guard := none } : Oper)) (v := ?_) rfl (by kernel_rfl) (by kernel_rfl) (by kernel_rfl) (fun _ _ _ h => h) (Or.inl ⟨by rfl, ?_⟩) (by assumption) ?_
                    rotate_left
                    · (intro w hSw; (try dsimp only at hSw); go_simp) <;> with_reducible rfl
                    (try simp only [Act.put, List.setIfInBounds_toArray, List.set_cons_zero, List.set_cons_succ])
                    refine wpAnyH_ready (rs := [4]) (by kernel_rfl) (by simp) ?_
                    refine AllReadyH.cons (o := ({ dst := some 119, op := Op.load 3 (Operand.tmp 118), type := 3, pos := "law.go:122", after := #[{ on := 3, ground := Ground.data }], guard := none } : Oper)) rfl (fun K hK => ?_) ?_
                    · go_simp
                      refine hK.out _ _ ?_ (fun hHeld => ?_)
                      · trivial
                      clear hK K
                      (try simp only [Act.put, List.setIfInBounds_toArray, List.set_cons_zero, List.set_cons_succ])
                      refine wpAnyH_ready (rs := [12]) (by kernel_rfl) (by simp) ?_
                      refine AllReadyH.cons (o := ({ dst := some 127, op := Op.call { callee := Callee.value (Operand.func 22), args := #[Operand.tmp 115, Operand.const (Value.int IntKind.i64 1000), Operand.tmp 119, Operand.tmp 126], argTypes := #[22, 3, 3, 3] }, type := 31, pos := "law.go:122", after := #[{ on := 0, ground := Ground.data }, { on := 4, ground := Ground.data }, { on := 11, ground := Ground.data }], guard := none } : Oper)) rfl (fun K hK => ?_) ?_
                      · go_simp
                        refine (GVE.out _ HM.out.2.1.drew _ HSC.out).mono ?_
                        rintro e w8 ⟨A8, t8, c8, rfl, ht8, r8, b8⟩
                        have hB8 : Below w7.heap.size w7 w8 := below_call BX.out (below_drewL b8)
                        have R8 := Lib.hid (And.intro ht8 r8)
                        clear ht8 r8
                        go_wp2_with fail
                        refine hK.out _ _ ?_ (fun hHeld => ?_)
                        · trivial
                        clear hK K
                        (try simp only [Act.put, List.setIfInBounds_toArray, List.set_cons_zero, List.set_cons_succ])
                        refine wpAnyH_take (i := 13) (oi := ({ dst := some 114, op := Op.move (Operand.tmp 127), type := 31, pos := "law.go:122", after := #[{ on := 12, ground := Ground.data }], guard := none } : Oper)) (v := ?_) rfl (by kernel_rfl) (by kernel_rfl) (by kernel_rfl) (fun _ _ _ h => h) (Or.inl ⟨by rfl, ?_⟩) (by assumption) ?_
                        rotate_left
                        · (intro w hSw; (try dsimp only at hSw); go_simp) <;> with_reducible rfl
                        (try simp only [Act.put, List.setIfInBounds_toArray, List.set_cons_zero, List.set_cons_succ])
                        refine wpAnyH_take (i := 14) (oi := ({ dst := some 128, op := Op.extract (Operand.tmp 114) 0, type := 22, pos := "law.go:122", after := #[{ on := 13, ground := Ground.data }], guard := none } : Oper)) (v := ?_) rfl (by kernel_rfl) (by kernel_rfl) (by kernel_rfl) (fun _ _ _ h => h) (Or.inl ⟨by rfl, ?_⟩) (by assumption) ?_
                        rotate_left
                        · (intro w hSw; (try dsimp only at hSw); go_simp) <;> with_reducible rfl
                        (try simp only [Act.put, List.setIfInBounds_toArray, List.set_cons_zero, List.set_cons_succ])
                        refine wpAnyH_take (i := 15) (oi := ({ dst := some 129, op := Op.extract (Operand.tmp 114) 1, type := 4, pos := "law.go:122", after := #[{ on := 13, ground := Ground.data }, { on := 16, ground := Ground.gcOnly Departure.lateStores }], guard := none } : Oper)) (v := ?_) rfl (by kernel_rfl) (by kernel_rfl) (by kernel_rfl) (fun _ _ _ h => h) (Or.inl ⟨by rfl, ?_⟩) (by assumption) ?_
                        rotate_left
                        · (intro w hSw; (try dsimp only at hSw); go_simp) <;> with_reducible rfl
                        (try simp only [Act.put, List.setIfInBounds_toArray, List.set_cons_zero, List.set_cons_succ])
                        refine wpAnyH_take (i := 16) (oi := ({ dst := some 15, op := Op.assign (Operand.tmp 128), type := 22, pos := "law.go:122", after := #[{ on := 14, ground := Ground.data }, { on := 12, ground := Ground.chain }, { on := 0, ground := Ground.phase }, { on := 1, ground := Ground.phase }, { on := 2, ground := Ground.phase }, { on := 3, ground := Ground.phase }, { on := 4, ground := Ground.phase }, { on := 5, ground := Ground.phase }, { on := 6, ground := Ground.phase }, { on := 7, ground := Ground.phase }, { on := 8, ground := Ground.phase }, { on := 9, ground := Ground.phase }, { on := 10, ground := Ground.phase }, { on := 11, ground := Ground.phase }, { on := 12, ground := Ground.phase }, { on := 13, ground := Ground.phase }, { on := 14, ground := Ground.phase }, { on := 15, ground := Ground.textOnly Departure.lateStores }], guard := none } : Oper)) (v := ?_) rfl (by kernel_rfl) (by kernel_rfl) (by kernel_rfl) (fun _ _ _ h => h) (Or.inl ⟨by rfl, ?_⟩) (by assumption) ?_
                        rotate_left
                        · (intro w hSw; (try dsimp only at hSw); go_simp) <;> with_reducible rfl
                        (try simp only [Act.put, List.setIfInBounds_toArray, List.set_cons_zero, List.set_cons_succ])
                        refine wpAnyH_take (i := 17) (oi := ({ dst := some 16, op := Op.assign (Operand.tmp 129), type := 4, pos := "law.go:122", after := #[{ on := 15, ground := Ground.data }, { on := 16, ground := Ground.chain }, { on := 0, ground := Ground.phase }, { on := 1, ground := Ground.phase }, { on := 2, ground := Ground.phase }, { on := 3, ground := Ground.phase }, { on := 4, ground := Ground.phase }, { on := 5, ground := Ground.phase }, { on := 6, ground := Ground.phase }, { on := 7, ground := Ground.phase }, { on := 8, ground := Ground.phase }, { on := 9, ground := Ground.phase }, { on := 10, ground := Ground.phase }, { on := 11, ground := Ground.phase }, { on := 12, ground := Ground.phase }, { on := 13, ground := Ground.phase }, { on := 14, ground := Ground.phase }, { on := 15, ground := Ground.phase }, { on := 16, ground := Ground.phase }], guard := none } : Oper)) (v := ?_) rfl (by kernel_rfl) (by kernel_rfl) (by kernel_rfl) (fun _ _ _ h => h) (Or.inl ⟨by rfl, ?_⟩) (by assumption) ?_
                        rotate_left
                        · (intro w hSw; (try dsimp only at hSw); go_simp) <;> with_reducible rfl
                        (try simp only [Act.put, List.setIfInBounds_toArray, List.set_cons_zero, List.set_cons_succ])
                        refine wpAnyH_done (by kernel_rfl) ?_ _
                        refine NoPanic.normal ?_
                        go_wp2_with fail
                        refine (right_any _ A8 _ t8 c8 R8.out.1 R8.out.2 (by have := R8.out.1; have := HAC.out.len; omega) 1000 (by omega)).mono ?_
                        rintro e w9 ⟨rfl, b9⟩
                        rw [(M.okB_iff _ _ _).2 HAC.out.ok]
                        have R9 := Lib.hid (And.intro (R8.out.2.below b9) (below_call hB8 b9))
                        clear b9
                        go_wp2_with fail
                        clear hr1 hr2 hu8
                        go_roundw
                        case rel => exact ⟨i2 + 1, t8, c8, A8, _, by omega, rfl, by go_num, HAC.out, R9.out.1, R8.out.1, R9.out.2⟩
                        case measure => simp [intOf]; omega
                      exact AllReadyH.nil
                    exact AllReadyH.nil
                  exact AllReadyH.nil
              · have hxx := HXX.out h7
                subst hxx
                have h70 : ¬ ((e7 : Int) = 0) := by omega
                have h71 : ((e7 : Int) == 0) = false := beq_false_of_ne h70
                by_cases hq0 : q = 0
                · subst hq0
                  have HAC := Lib.hid (hskip (by rw [hcb]; rfl))
                  clear hgive hskip hcb
                  have x70 := imp_of HX0.out.1
                  have x71 := imp_of HX0.out.2
                  have e70 := imp_of HE7.out.1
                  have e71 := imp_of HE7.out.2
                  have hq1 := imp_of HQ1.out.1
                  have hq2 := imp_of HQ1.out.2
                  go_wp2_with fail
                  clear hq1 hq2 x70 x71 e70 e71 h70 h71
                  go_roundw
                  case rel => exact ⟨i2 + 1, t2, c2, A2, lb, by omega, rfl, by go_num, HAC.out, HM.out.2.1, HM.out.2.2, BX.out⟩
                  case measure => simp [intOf]; omega
                · have hb : cutB xs x0 = true := by rw [hcb]; simpa using hq0
                  have hg2 := hgive hb
                  have gve := fun W h => give_any W A2 lb t2 c2 HM.out.2.2 h (by have := HM.out.2.2; have := HM.out.1.len; omega) HM.out.1.wide 1000 (cA : Int) ((r : Int) + 1) (by omega) (by omega)
                  rw [hg2.1] at gve
                  have GVE := Lib.hid (fun W h => arg3_of (gve W h))
                  have HAC := Lib.hid hg2.2
                  have hq00 : ¬ ((q : Int) = 0) := by omega
                  have hq01 : ((q : Int) == 0) = false := beq_false_of_ne hq00
                  clear hgive hskip hcb hb hg2 gve
                  have x70 := imp_of HX0.out.1
                  have x71 := imp_of HX0.out.2
                  have e70 := imp_of HE7.out.1
                  have e71 := imp_of HE7.out.2
                  have hq1 := imp_of HQ1.out.1
                  have hq2 := imp_of HQ1.out.2
                  have hr1 := imp_of HR1.out.1
                  have hr2 := imp_of HR1.out.2
                  have hu8 := imp_of HU8.out
                  go_wp2_with fail
                  refine wp_region_noPanic ?_
                  refine wp_region_held_drew (S := fun _ => True) (by kernel_rfl) (trivial) (fun hHeld => ?_)
                  refine wpAnyH_take (i := 0) (oi := ({ dst := some 115, op := Op.move (Operand.tmp 7), type := 22, pos := "law.go:122", after := #[], guard := none } : Oper)) (v := ?_) rfl (by kernel_rfl) (by kernel_rfl) (by kernel_rfl) (fun _ _ _ h => h) (Or.inl ⟨by rfl, ?_⟩) (by assumption) ?_
                  rotate_left
                  · (intro w hSw; (try dsimp only at hSw); go_simp) <;> with_reducible rfl
                  (try simp only [Act.put, List.setIfInBounds_toArray, List.set_cons_zero, List.set_cons_succ])
                  refine wpAnyH_take (i := 1) (oi := ({ dst := some 116, op := Op.move (Operand.tmp 8), type := 39, pos := "law.go:122", after := #[], guard := none } : Oper)) (v := ?_) rfl (by kernel_rfl) (by kernel_rfl) (by kernel_rfl) (fun _ _ _ h => h) (Or.inl ⟨by rfl, ?_⟩) (by assumption) ?_
                  rotate_left
                  · (intro w hSw; (try dsimp only at hSw); go_simp) <;> with_reducible rfl
                  (try simp only [Act.put, List.setIfInBounds_toArray, List.set_cons_zero, List.set_cons_succ])
                  refine wpAnyH_take (i := 2) (oi := ({ dst := some 117, op := Op.move (Operand.tmp 14), type := 3, pos := "law.go:122", after := #[], guard := none } : Oper)) (v := ?_) rfl (by kernel_rfl) (by kernel_rfl) (by kernel_rfl) (fun _ _ _ h => h) (Or.inl ⟨by rfl, ?_⟩) (by assumption) ?_
                  rotate_left
                  · (intro w hSw; (try dsimp only at hSw); go_simp) <;> with_reducible rfl
                  (try simp only [Act.put, List.setIfInBounds_toArray, List.set_cons_zero, List.set_cons_succ])
                  refine wpAnyH_take (i := 3) (oi := ({ dst := some 118, op := Op.indexAddr 39 (Operand.tmp 116) (Operand.tmp 117), type := 0, pos := "law.go:122", after := #[{ on := 1, ground := Ground.data }, { on := 2, ground := Ground.data }], guard := none } : Oper)) (v := ?_) rfl (by kernel_rfl) (by kernel_rfl) (by kernel_rfl) (fun _ _ _ h => h) (Or.inl ⟨by rfl, ?_⟩) (by assumption) ?_
                  rotate_left
                  · (intro w hSw; (try dsimp only at hSw); go_simp) <;> with_reducible rfl
                  (try simp only [Act.put, List.setIfInBounds_toArray, List.set_cons_zero, List.set_cons_succ])
                  refine wpAnyH_take (i := 5) (oi := ({ dst := some 120, op := Op.move (Operand.tmp 0), type := 38, pos := "law.go:122", after := #[], guard := none } : Oper)) (v := ?_) rfl (by kernel_rfl) (by kernel_rfl) (by kernel_rfl) (fun _ _ _ h => h) (Or.inl ⟨by rfl, ?_⟩) (by assumption) ?_
                  rotate_left
                  · (intro w hSw; (try dsimp only at hSw); go_simp) <;> with_reducible rfl
                  (try simp only [Act.put, List.setIfInBounds_toArray, List.set_cons_zero, List.set_cons_succ])
                  refine wpAnyH_take (i := 6) (oi := ({ dst := some 121, op := Op.move (Operand.tmp 14), type := 3, pos := "law.go:122", after := #[], guard := none } : Oper)) (v := ?_) rfl (by kernel_rfl) (by kernel_rfl) (by kernel_rfl) (fun _ _ _ h => h) (Or.inl ⟨by rfl, ?_⟩) (by assumption) ?_
                  rotate_left
                  · (intro w hSw; (try dsimp only at hSw); go_simp) <;> with_reducible rfl
                  (try simp only [Act.put, List.setIfInBounds_toArray, List.set_cons_zero, List.set_cons_succ])
                  refine wpAnyH_take (i := 7) (oi := ({ dst := some 122, op := Op.indexAddr 38 (Operand.tmp 120) (Operand.tmp 121), type := 0, pos := "law.go:122", after := #[{ on := 5, ground := Ground.data }, { on := 6, ground := Ground.data }], guard := none } : Oper)) (v := ?_) rfl (by kernel_rfl) (by kernel_rfl) (by kernel_rfl) (fun _ _ _ h => h) (Or.inl ⟨by rfl, ?_⟩) (by assumption) ?_
                  rotate_left
                  · (intro w hSw; (try dsimp only at hSw); go_simp) <;> with_reducible rfl
                  (try simp only [Act.put, List.setIfInBounds_toArray, List.set_cons_zero, List.set_cons_succ])
                  refine wpAnyH_ready (rs := [4, 8]) (by kernel_rfl) (by simp) ?_
                  refine AllReadyH.cons (o := ({ dst := some 119, op := Op.load 3 (Operand.tmp 118), type := 3, pos := "law.go:122", after := #[{ on := 3, ground := Ground.data }], guard := none } : Oper)) rfl (fun K hK => ?_) ?_
                  · go_simp
                    refine hK.out _ _ ?_ (fun hHeld => ?_)
                    · trivial
                    clear hK K
                    (try simp only [Act.put, List.setIfInBounds_toArray, List.set_cons_zero, List.set_cons_succ])
                    refine wpAnyH_ready (rs := [8]) (by kernel_rfl) (by simp) ?_
                    refine AllReadyH.cons (o := ({ dst := some 123, op := Op.load 5 (Operand.tmp 122), type := 5, pos := "law.go:122", after := #[{ on := 7, ground := Ground.data }], guard := none } : Oper)) rfl (fun K hK => ?_) ?_
                    · go_simp
                      refine hK.out _ _ ?_ (fun hHeld => ?_)
                      · trivial
                      clear hK K
                      (try simp only [Act.put, List.setIfInBounds_toArray, List.set_cons_zero, List.set_cons_succ])
                      refine wpAnyH_take (i := 9) (oi := ({ dst := some 124, op := Op.binOp BinOp.rem 5 (Operand.tmp 123) (Operand.const (Value.int IntKind.u8 5)) 5, type := 5, pos := "law.go:122", after := #[{ on := 8, ground := Ground.data }], guard := none } : Oper)) (v := ?_) rfl (by kernel_rfl) (by kernel_rfl) (by kernel_rfl) (fun _ _ _ h => h) (Or.inl ⟨by rfl, ?_⟩) (by assumption) ?_
                      rotate_left
                      · (intro w hSw; (try dsimp only at hSw); go_simp) <;> with_reducible rfl
                      (try simp only [Act.put, List.setIfInBounds_toArray, List.set_cons_zero, List.set_cons_succ])
                      refine wpAnyH_take (i := 10) (oi := ({ dst := some 125, op := Op.convert 5 3 (Operand.tmp 124), type := 3, pos := "law.go:122", after := #[{ on := 9, ground := Ground.data }], guard := none } : Oper)) (v := ?_) rfl (by kernel_rfl) (by kernel_rfl) (by kernel_rfl) (fun _ _ _ h => h) (Or.inl ⟨by rfl, ?_⟩) (by assumption) ?_
                      rotate_left
                      · (intro w hSw; (try dsimp only at hSw); go_simp) <;> with_reducible rfl
                      (try simp only [Act.put, List.setIfInBounds_toArray, List.set_cons_zero, List.set_cons_succ])
                      refine wpAnyH_take (i := 11) (oi := ({ dst := some 126, op := Op.binOp BinOp.add 3 (Operand.tmp 125) (Operand.const (Value.int IntKind.i64 1)) 3, type := 3, pos := "law.go:122", after := #[{ on := 10, ground := Ground.data }], guard := none } : Oper)) (v := ?_) rfl (by kernel_rfl) (by kernel_rfl) (by kernel_rfl) (fun _ _ _ h => h) (Or.inl ⟨by rfl, ?_⟩) (by assumption) ?_
                      rotate_left
                      · (intro w hSw; (try dsimp only at hSw); go_simp) <;> with_reducible rfl
                      (try simp only [Act.put, List.setIfInBounds_toArray, List.set_cons_zero, List.set_cons_succ])
                      refine wpAnyH_ready (rs := [12]) (by kernel_rfl) (by simp) ?_
                      refine AllReadyH.cons (o := ({ dst := some 127, op := Op.call { callee := Callee.value (Operand.func 22), args := #[Operand.tmp 115, Operand.const (Value.int IntKind.i64 1000), Operand.tmp 119, Operand.tmp 126], argTypes := #[22, 3, 3, 3] }, type := 31, pos := "law.go:122", after := #[{ on := 0, ground := Ground.data }, { on := 4, ground := Ground.data }, { on := 11, ground := Ground.data }], guard := none } : Oper)) rfl (fun K hK => ?_) ?_
                      · go_simp
                        refine (GVE.out _ HM.out.2.1.drew _ HSC.out).mono ?_
                        rintro e w8 ⟨A8, t8, c8, rfl, ht8, r8, b8⟩
                        have hB8 : Below w7.heap.size w7 w8 := below_call BX.out (below_drewL b8)
                        have R8 := Lib.hid (And.intro ht8 r8)
                        clear ht8 r8
                        go_wp2_with fail
                        refine hK.out _ _ ?_ (fun hHeld => ?_)
                        · trivial
                        clear hK K
                        (try simp only [Act.put, List.setIfInBounds_toArray, List.set_cons_zero, List.set_cons_succ])
                        refine wpAnyH_take (i := 13) (oi := ({ dst := some 114, op := Op.move (Operand.tmp 127), type := 31, pos := "law.go:122", after := #[{ on := 12, ground := Ground.data }], guard := none } : Oper)) (v := ?_) rfl (by kernel_rfl) (by kernel_rfl) (by kernel_rfl) (fun _ _ _ h => h) (Or.inl ⟨by rfl, ?_⟩) (by assumption) ?_
                        rotate_left
                        · (intro w hSw; (try dsimp only at hSw); go_simp) <;> with_reducible rfl
                        (try simp only [Act.put, List.setIfInBounds_toArray, List.set_cons_zero, List.set_cons_succ])
                        refine wpAnyH_take (i := 14) (oi := ({ dst := some 128, op := Op.extract (Operand.tmp 114) 0, type := 22, pos := "law.go:122", after := #[{ on := 13, ground := Ground.data }], guard := none } : Oper)) (v := ?_) rfl (by kernel_rfl) (by kernel_rfl) (by kernel_rfl) (fun _ _ _ h => h) (Or.inl ⟨by rfl, ?_⟩) (by assumption) ?_
                        rotate_left
                        · (intro w hSw; (try dsimp only at hSw); go_simp) <;> with_reducible rfl
                        (try simp only [Act.put, List.setIfInBounds_toArray, List.set_cons_zero, List.set_cons_succ])
                        refine wpAnyH_take (i := 15) (oi := ({ dst := some 129, op := Op.extract (Operand.tmp 114) 1, type := 4, pos := "law.go:122", after := #[{ on := 13, ground := Ground.data }, { on := 16, ground := Ground.gcOnly Departure.lateStores }], guard := none } : Oper)) (v := ?_) rfl (by kernel_rfl) (by kernel_rfl) (by kernel_rfl) (fun _ _ _ h => h) (Or.inl ⟨by rfl, ?_⟩) (by assumption) ?_
                        rotate_left
                        · (intro w hSw; (try dsimp only at hSw); go_simp) <;> with_reducible rfl
                        (try simp only [Act.put, List.setIfInBounds_toArray, List.set_cons_zero, List.set_cons_succ])
                        refine wpAnyH_take (i := 16) (oi := ({ dst := some 15, op := Op.assign (Operand.tmp 128), type := 22, pos := "law.go:122", after := #[{ on := 14, ground := Ground.data }, { on := 12, ground := Ground.chain }, { on := 0, ground := Ground.phase }, { on := 1, ground := Ground.phase }, { on := 2, ground := Ground.phase }, { on := 3, ground := Ground.phase }, { on := 4, ground := Ground.phase }, { on := 5, ground := Ground.phase }, { on := 6, ground := Ground.phase }, { on := 7, ground := Ground.phase }, { on := 8, ground := Ground.phase }, { on := 9, ground := Ground.phase }, { on := 10, ground := Ground.phase }, { on := 11, ground := Ground.phase }, { on := 12, ground := Ground.phase }, { on := 13, ground := Ground.phase }, { on := 14, ground := Ground.phase }, { on := 15, ground := Ground.textOnly Departure.lateStores }], guard := none } : Oper)) (v := ?_) rfl (by kernel_rfl) (by kernel_rfl) (by kernel_rfl) (fun _ _ _ h => h) (Or.inl ⟨by rfl, ?_⟩) (by assumption) ?_
                        rotate_left
                        · (intro w hSw; (try dsimp only at hSw); go_simp) <;> with_reducible rfl
                        (try simp only [Act.put, List.setIfInBounds_toArray, List.set_cons_zero, List.set_cons_succ])
                        refine wpAnyH_take (i := 17) (oi := ({ dst := some 16, op := Op.assign (Operand.tmp 129), type := 4, pos := "law.go:122", after := #[{ on := 15, ground := Ground.data }, { on := 16, ground := Ground.chain }, { on := 0, ground := Ground.phase }, { on := 1, ground := Ground.phase }, { on := 2, ground := Ground.phase }, { on := 3, ground := Ground.phase }, { on := 4, ground := Ground.phase }, { on := 5, ground := Ground.phase }, { on := 6, ground := Ground.phase }, { on := 7, ground := Ground.phase }, { on := 8, ground := Ground.phase }, { on := 9, ground := Ground.phase }, { on := 10, ground := Ground.phase }, { on := 11, ground := Ground.phase }, { on := 12, ground := Ground.phase }, { on := 13, ground := Ground.phase }, { on := 14, ground := Ground.phase }, { on := 15, ground := Ground.phase }, { on := 16, ground := Ground.phase }], guard := none } : Oper)) (v := ?_) rfl (by kernel_rfl) (by kernel_rfl) (by kernel_rfl) (fun _ _ _ h => h) (Or.inl ⟨by rfl, ?_⟩) (by assumption) ?_
                        rotate_left
                        · (intro w hSw; (try dsimp only at hSw); go_simp) <;> with_reducible rfl
                        (try simp only [Act.put, List.setIfInBounds_toArray, List.set_cons_zero, List.set_cons_succ])
                        refine wpAnyH_done (by kernel_rfl) ?_ _
                        refine NoPanic.normal ?_
                        go_wp2_with fail
                        refine (right_any _ A8 _ t8 c8 R8.out.1 R8.out.2 (by have := R8.out.1; have := HAC.out.len; omega) 1000 (by omega)).mono ?_
                        rintro e w9 ⟨rfl, b9⟩
                        rw [(M.okB_iff _ _ _).2 HAC.out.ok]
                        have R9 := Lib.hid (And.intro (R8.out.2.below b9) (below_call hB8 b9))
                        clear b9
                        go_wp2_with fail
                        clear hr1 hr2 hu8
                        go_roundw
                        case rel => exact ⟨i2 + 1, t8, c8, A8, _, by omega, rfl, by go_num, HAC.out, R9.out.1, R8.out.1, R9.out.2⟩
                        case measure => simp [intOf]; omega
                      exact AllReadyH.nil
                    exact AllReadyH.nil
                  refine AllReadyH.cons (o := ({ dst := some 123, op := Op.load 5 (Operand.tmp 122), type := 5, pos := "law.go:122", after := #[{ on := 7, ground := Ground.data }], guard := none } : Oper)) rfl (fun K hK => ?_) ?_
                  · go_simp
                    refine hK.out _ _ ?_ (fun hHeld => ?_)
                    · trivial
                    clear hK K
                    (try simp only [Act.put, List.setIfInBounds_toArray, List.set_cons_zero, List.set_cons_succ])
                    refine wpAnyH_take (i := 9) (oi := ({ dst := some 124, op := Op.binOp BinOp.rem 5 (Operand.tmp 123) (Operand.const (Value.int IntKind.u8 5)) 5, type := 5, pos := "law.go:122", after := #[{ on := 8, ground := Ground.data }], guard := none } : Oper)) (v := ?_) rfl (by kernel_rfl) (by kernel_rfl) (by kernel_rfl) (fun _ _ _ h => h) (Or.inl ⟨by rfl, ?_⟩) (by assumption) ?_
                    rotate_left
                    · (intro w hSw; (try dsimp only at hSw); go_simp) <;> with_reducible rfl
                    (try simp only [Act.put, List.setIfInBounds_toArray, List.set_cons_zero, List.set_cons_succ])
                    refine wpAnyH_take (i := 10) (oi := ({ dst := some 125, op := Op.convert 5 3 (Operand.tmp 124), type := 3, pos := "law.go:122", after := #[{ on := 9, ground := Ground.data }], guard := none } : Oper)) (v := ?_) rfl (by kernel_rfl) (by kernel_rfl) (by kernel_rfl) (fun _ _ _ h => h) (Or.inl ⟨by rfl, ?_⟩) (by assumption) ?_
                    rotate_left
                    · (intro w hSw; (try dsimp only at hSw); go_simp) <;> with_reducible rfl
                    (try simp only [Act.put, List.setIfInBounds_toArray, List.set_cons_zero, List.set_cons_succ])
                    refine wpAnyH_take (i := 11) (oi := ({ dst := some 126, op := Op.binOp BinOp.add 3 (Operand.tmp 125) (Operand.const (Value.int IntKind.i64 1)) 3, type := 3, pos := "law.go:122", after := #[{ on := 10, ground := Ground.data }], guard := none } : Oper)) (v := ?_) rfl (by kernel_rfl) (by kernel_rfl) (by kernel_rfl) (fun _ _ _ h => h) (Or.inl ⟨by rfl, ?_⟩) (by assumption) ?_
                    rotate_left
                    · (intro w hSw; (try dsimp only at hSw); go_simp) <;> with_reducible rfl
                    (try simp only [Act.put, List.setIfInBounds_toArray, List.set_cons_zero, List.set_cons_succ])
                    refine wpAnyH_ready (rs := [4]) (by kernel_rfl) (by simp) ?_
                    refine AllReadyH.cons (o := ({ dst := some 119, op := Op.load 3 (Operand.tmp 118), type := 3, pos := "law.go:122", after := #[{ on := 3, ground := Ground.data }], guard := none } : Oper)) rfl (fun K hK => ?_) ?_
                    · go_simp
                      refine hK.out _ _ ?_ (fun hHeld => ?_)
                      · trivial
                      clear hK K
                      (try simp only [Act.put, List.setIfInBounds_toArray, List.set_cons_zero, List.set_cons_succ])
                      refine wpAnyH_ready (rs := [12]) (by kernel_rfl) (by simp) ?_
                      refine AllReadyH.cons (o := ({ dst := some 127, op := Op.call { callee := Callee.value (Operand.func 22), args := #[Operand.tmp 115, Operand.const (Value.int IntKind.i64 1000), Operand.tmp 119, Operand.tmp 126], argTypes := #[22, 3, 3, 3] }, type := 31, pos := "law.go:122", after := #[{ on := 0, ground := Ground.data }, { on := 4, ground := Ground.data }, { on := 11, ground := Ground.data }], guard := none } : Oper)) rfl (fun K hK => ?_) ?_
                      · go_simp
                        refine (GVE.out _ HM.out.2.1.drew _ HSC.out).mono ?_
                        rintro e w8 ⟨A8, t8, c8, rfl, ht8, r8, b8⟩
                        have hB8 : Below w7.heap.size w7 w8 := below_call BX.out (below_drewL b8)
                        have R8 := Lib.hid (And.intro ht8 r8)
                        clear ht8 r8
                        go_wp2_with fail
                        refine hK.out _ _ ?_ (fun hHeld => ?_)
                        · trivial
                        clear hK K
                        (try simp only [Act.put, List.setIfInBounds_toArray, List.set_cons_zero, List.set_cons_succ])
                        refine wpAnyH_take (i := 13) (oi := ({ dst := some 114, op := Op.move (Operand.tmp 127), type := 31, pos := "law.go:122", after := #[{ on := 12, ground := Ground.data }], guard := none } : Oper)) (v := ?_) rfl (by kernel_rfl) (by kernel_rfl) (by kernel_rfl) (fun _ _ _ h => h) (Or.inl ⟨by rfl, ?_⟩) (by assumption) ?_
                        rotate_left
                        · (intro w hSw; (try dsimp only at hSw); go_simp) <;> with_reducible rfl
                        (try simp only [Act.put, List.setIfInBounds_toArray, List.set_cons_zero, List.set_cons_succ])
                        refine wpAnyH_take (i := 14) (oi := ({ dst := some 128, op := Op.extract (Operand.tmp 114) 0, type := 22, pos := "law.go:122", after := #[{ on := 13, ground := Ground.data }], guard := none } : Oper)) (v := ?_) rfl (by kernel_rfl) (by kernel_rfl) (by kernel_rfl) (fun _ _ _ h => h) (Or.inl ⟨by rfl, ?_⟩) (by assumption) ?_
                        rotate_left
                        · (intro w hSw; (try dsimp only at hSw); go_simp) <;> with_reducible rfl
                        (try simp only [Act.put, List.setIfInBounds_toArray, List.set_cons_zero, List.set_cons_succ])
                        refine wpAnyH_take (i := 15) (oi := ({ dst := some 129, op := Op.extract (Operand.tmp 114) 1, type := 4, pos := "law.go:122", after := #[{ on := 13, ground := Ground.data }, { on := 16, ground := Ground.gcOnly Departure.lateStores }], guard := none } : Oper)) (v := ?_) rfl (by kernel_rfl) (by kernel_rfl) (by kernel_rfl) (fun _ _ _ h => h) (Or.inl ⟨by rfl, ?_⟩) (by assumption) ?_
                        rotate_left
                        · (intro w hSw; (try dsimp only at hSw); go_simp) <;> with_reducible rfl
                        (try simp only [Act.put, List.setIfInBounds_toArray, List.set_cons_zero, List.set_cons_succ])
                        refine wpAnyH_take (i := 16) (oi := ({ dst := some 15, op := Op.assign (Operand.tmp 128), type := 22, pos := "law.go:122", after := #[{ on := 14, ground := Ground.data }, { on := 12, ground := Ground.chain }, { on := 0, ground := Ground.phase }, { on := 1, ground := Ground.phase }, { on := 2, ground := Ground.phase }, { on := 3, ground := Ground.phase }, { on := 4, ground := Ground.phase }, { on := 5, ground := Ground.phase }, { on := 6, ground := Ground.phase }, { on := 7, ground := Ground.phase }, { on := 8, ground := Ground.phase }, { on := 9, ground := Ground.phase }, { on := 10, ground := Ground.phase }, { on := 11, ground := Ground.phase }, { on := 12, ground := Ground.phase }, { on := 13, ground := Ground.phase }, { on := 14, ground := Ground.phase }, { on := 15, ground := Ground.textOnly Departure.lateStores }], guard := none } : Oper)) (v := ?_) rfl (by kernel_rfl) (by kernel_rfl) (by kernel_rfl) (fun _ _ _ h => h) (Or.inl ⟨by rfl, ?_⟩) (by assumption) ?_
                        rotate_left
                        · (intro w hSw; (try dsimp only at hSw); go_simp) <;> with_reducible rfl
                        (try simp only [Act.put, List.setIfInBounds_toArray, List.set_cons_zero, List.set_cons_succ])
                        refine wpAnyH_take (i := 17) (oi := ({ dst := some 16, op := Op.assign (Operand.tmp 129), type := 4, pos := "law.go:122", after := #[{ on := 15, ground := Ground.data }, { on := 16, ground := Ground.chain }, { on := 0, ground := Ground.phase }, { on := 1, ground := Ground.phase }, { on := 2, ground := Ground.phase }, { on := 3, ground := Ground.phase }, { on := 4, ground := Ground.phase }, { on := 5, ground := Ground.phase }, { on := 6, ground := Ground.phase }, { on := 7, ground := Ground.phase }, { on := 8, ground := Ground.phase }, { on := 9, ground := Ground.phase }, { on := 10, ground := Ground.phase }, { on := 11, ground := Ground.phase }, { on := 12, ground := Ground.phase }, { on := 13, ground := Ground.phase }, { on := 14, ground := Ground.phase }, { on := 15, ground := Ground.phase }, { on := 16, ground := Ground.phase }], guard := none } : Oper)) (v := ?_) rfl (by kernel_rfl) (by kernel_rfl) (by kernel_rfl) (fun _ _ _ h => h) (Or.inl ⟨by rfl, ?_⟩) (by assumption) ?_
                        rotate_left
                        · (intro w hSw; (try dsimp only at hSw); go_simp) <;> with_reducible rfl
                        (try simp only [Act.put, List.setIfInBounds_toArray, List.set_cons_zero, List.set_cons_succ])
                        refine wpAnyH_done (by kernel_rfl) ?_ _
                        refine NoPanic.normal ?_
                        go_wp2_with fail
                        refine (right_any _ A8 _ t8 c8 R8.out.1 R8.out.2 (by have := R8.out.1; have := HAC.out.len; omega) 1000 (by omega)).mono ?_
                        rintro e w9 ⟨rfl, b9⟩
                        rw [(M.okB_iff _ _ _).2 HAC.out.ok]
                        have R9 := Lib.hid (And.intro (R8.out.2.below b9) (below_call hB8 b9))
                        clear b9
                        go_wp2_with fail
                        clear hr1 hr2 hu8
                        go_roundw
                        case rel => exact ⟨i2 + 1, t8, c8, A8, _, by omega, rfl, by go_num, HAC.out, R9.out.1, R8.out.1, R9.out.2⟩
                        case measure => simp [intOf]; omega
                      exact AllReadyH.nil
                    exact AllReadyH.nil
                  exact AllReadyH.nil
            · have hie : i2 = len0 := by omega
              rw [hie] at HM
              have SM := Lib.hid (Acc.same H7.out.1.1 HM.out.1 (by omega))
              clear hie
              go_wp2_with fail
              refine (same_any _ A A2 la lb t c t2 c2 H7.out.1.2.2 HM.out.2.2 (H7.out.1.2.1.below BX.out) HM.out.2.1 (by have := H7.out.1.2.2; have := H7.out.1.1.len; omega)).mono ?_
              rintro e w9 ⟨rfl, b9⟩
              rw [show decide (la = lb) = true by simp [SM.out]]
              have B9 := Lib.hid (below_call (below_call H7.out.2.1 BX.out) b9)
              clear b9
              go_wp2_with fail
              go_ret
              exact ⟨rfl, B9.out⟩

/-! The row's step. -/
set_option maxRecDepth 100000 in
theorem lifted (os : Os) (started : os.Started) (H : Type) (enc : TypeId × Value → H) :
    ReturnsInHanded {} Try.checked os 7 .any (Rows.runsOrderSpec.pre6 enc Try.prog Try.f7 Rows.runsOrderRow.domain false) (Rows.runsOrderSpec.post enc Try.prog Try.f7 false true false false) := by
  refine returnsInHanded_of_change (C := Try.checked) own started (by kernel_rfl) Try.func7
    (ChangeSpec.witness6 (enc := enc) (C := Try.checked) false ⟨#[], #[.slice none 0 0, .int .u8 0], []⟩ 8 (by kernel_rfl) (by kernel_rfl) (by kernel_rfl) (by kernel_rfl)) ?_
  intro W base args ds gs before hval0 hW hcnd _
  have hval : ∀ (j : Nat) t v, Try.f7.params[j]? = some t → args[j]? = some v → Value.okWide Try.prog W .any base t v := hval0
  have hW' := hW
  obtain ⟨p, q, hA0, hV, rfl, hfz, hnd⟩ := hW
  have hA : DataW.TrodAll enc Try.prog W 0 (fun _ => true) true Try.f7.params.toList args.toList ds p := hA0
  rw [Try.params7] at hA hval
  obtain ⟨v0, vs0, d0, ds0, p0, q0, hargs, rfl, rfl, h0, r0⟩ := trodAll_cons hA
  obtain ⟨v1, vs1, d1, ds1, p1, q1, rfl, rfl, rfl, h1, r1⟩ := trodAll_cons r0
  obtain ⟨rfl, rfl, rfl⟩ := trodAll_nil r1
  obtain rfl : args = #[v0, v1] := by cases args; simp_all
  obtain ⟨rfl, rfl⟩ := trodVars_none hV
  obtain ⟨a0, len0, cap0, rfl⟩ := okWide_slice Try.underlying38 (hval 0 38 v0 rfl rfl)
  have k0 := h0
  have lt0 : ∀ x ∈ p0, x.block < W.heap.size := by obtain ⟨m, hm⟩ := k0; exact DataW.trod_lt m _ _ _ hm
  obtain ⟨z0, w0⟩ : ∃ zs, IsRow .u8 W a0 len0 cap0 zs := by
    obtain ⟨fuel, hf⟩ := h0
    rcases open_ints Try.underlying38 Try.underlying5 (by kernel_rfl) hf with ⟨hcs, _⟩ | ⟨x, l, c, zs, hcs, _, hl, hm, hz, _, hcell, hwz⟩
    · simp [Value.cells] at hcs
      obtain ⟨rfl, rfl, rfl⟩ := hcs
      exact ⟨[], .inl ⟨rfl, rfl, rfl, rfl⟩⟩
    · simp [Value.cells] at hcs
      obtain ⟨rfl, rfl, rfl⟩ := hcs
      exact ⟨zs, .inr ⟨_, rfl, hl, hm, by simpa using hz, hcell, hwz⟩⟩
  obtain ⟨a1, rfl, rfl, rfl, w1⟩ := open_int Try.underlying5 (hval 1 5 v1 rfl rfl) h1
  clear hA0 hval0
  refine (walk a0 len0 cap0 z0 a1 W w0 w1).mono fun e W' ⟨he, bel⟩ => ?_
  subst he
  exact ⟨_, rfl, _, _, _, [], _, [], hW', trodAll_mk1 (shut_bool Try.underlying4 _), (trodAll_cons_mk (Below.trod laidOut (by kernel_rfl) (of_decide_eq_true (by kernel_rfl)) k0 bel lt0) (trodAll_cons_mk (shut_int Try.underlying5 w1) trodAll_mk0)), rfl, bel.frame _, fun h => by cases h⟩

theorem over : Rows.runsOrderRow.holds Try.pinned (OpenSpec.ofChange Rows.runsOrderSpec) :=
  OpenClaim.holds_of_wide 7 Try.f7 rfl rfl rfl rfl rfl rfl rfl ⟨rfl, rfl, rfl, rfl, rfl⟩ rfl rfl rfl rfl rfl (by kernel_rfl) Try.func7 (by kernel_rfl)
    (of_decide_eq_true (by kernel_rfl)) (by unfold Func.isWrapper; first | (rw [if_pos (by decide +kernel)]; kernel_rfl) | (rw [if_neg (by decide +kernel)]; exact ⟨rfl, rfl⟩))
    (fun os started H enc _ => lifted os started H enc)

/-- The statement. -/
theorem proved : Rows.RunsOrderSaid := over
#print axioms proved
end Go.Proofs.Ytbmibggjdilhkaa.runsOrder
