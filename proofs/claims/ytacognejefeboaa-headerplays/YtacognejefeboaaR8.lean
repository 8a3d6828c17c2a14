/-
  The document's answers for layer 8: the small functions.
-/
import Derived.Test.YtacognejefeboaaA8
import Derived.Test.YtacognejefeboaaR2
import Derived.Deep.RegionHeld3
namespace Go.Proofs.Ytacognejefeboaa
open Go.ChangeShapes Go.WideShapes Go.ChangeAt Go.RowKit
set_option linter.unusedVariables false
set_option maxRecDepth 20000

/-- Three cells of a variable of one's own. -/
structure Box3 (w : World) (g : Nat) (v0 v1 v2 : Value) : Prop where
  c0 : w.cell? ⟨g, 0, none⟩ = some v0
  c1 : w.cell? ⟨g, 1, none⟩ = some v1
  c2 : w.cell? ⟨g, 2, none⟩ = some v2
  fz : ∀ j, w.frozen? ⟨g, j, none⟩ = false
section
variable {w w' : World} {g : Nat} {v0 v1 v2 : Value} {O : Nat → Prop}
theorem Box3.new (w : World) (ty : TypeId) (v0 v1 v2 : Value) : Box3 (w.alloc (.cells #[v0, v1, v2] ty)) w.heap.size v0 v1 v2 :=
  ⟨by rw [World.cell?_alloc_mark]; rfl, by rw [World.cell?_alloc_mark]; rfl, by rw [World.cell?_alloc_mark]; rfl, fun j => by rw [World.frozen?_alloc_mark]; simp⟩
theorem Box3.lt (h : Box3 w g v0 v1 v2) : g < w.heap.size := lt_of_cell h.c0
theorem Box3.below (h : Box3 w g v0 v1 v2) (hb : Below w.heap.size w w') : Box3 w' g v0 v1 v2 :=
  ⟨(hb.cell (lt_of_cell h.c0)).trans h.c0, (hb.cell (lt_of_cell h.c1)).trans h.c1, (hb.cell (lt_of_cell h.c2)).trans h.c2, fun j => (World.frozen?_of_block (hb.block g h.lt)).trans (h.fz j)⟩
theorem Box3.kept (h : Box3 w g v0 v1 v2) (k : Kept w w' O) (n : ¬ O g) : Box3 w' g v0 v1 v2 :=
  ⟨k.cell_some h.c0 n, k.cell_some h.c1 n, k.cell_some h.c2 n, fun j => (k.frozen (p := ⟨g, j, none⟩) h.lt n).trans (h.fz j)⟩
theorem Box3.set (h : Box3 w g v0 v1 v2) (u0 u1 u2 : Value) : Box3 (((w.setCell ⟨g, 0, none⟩ u0).setCell ⟨g, 1, none⟩ u1).setCell ⟨g, 2, none⟩ u2) g u0 u1 u2 := by
  refine ⟨?_, ?_, ?_, fun j => by rw [World.frozen?_setCell, World.frozen?_setCell, World.frozen?_setCell]; exact h.fz j⟩
  · rw [World.cell?_setCell_other _ _ _ _ (by simp), World.cell?_setCell_other _ _ _ _ (by simp)]
    exact World.cell?_setCell_same _ _ _ h.c0
  · rw [World.cell?_setCell_other _ _ _ _ (by simp)]
    refine World.cell?_setCell_same _ _ _ (show World.cell? _ _ = some v1 from ?_)
    rw [World.cell?_setCell_other _ _ _ _ (by simp)]
    exact h.c1
  · refine World.cell?_setCell_same _ _ _ (show World.cell? _ _ = some v2 from ?_)
    rw [World.cell?_setCell_other _ _ _ _ (by simp), World.cell?_setCell_other _ _ _ _ (by simp)]
    exact h.c2
theorem below_set3 {B : Nat} {a : World} (h : Below B a w) (hg : B ≤ g) (u0 u1 u2 : Value) : Below B a (((w.setCell ⟨g, 0, none⟩ u0).setCell ⟨g, 1, none⟩ u1).setCell ⟨g, 2, none⟩ u2) :=
  ((h.setCell (p := ⟨g, 0, none⟩) hg u0).setCell (p := ⟨g, 1, none⟩) hg u1).setCell (p := ⟨g, 2, none⟩) hg u2
theorem kept_set3 (w : World) (g : Nat) (u0 u1 u2 : Value) : Kept w (((w.setCell ⟨g, 0, none⟩ u0).setCell ⟨g, 1, none⟩ u1).setCell ⟨g, 2, none⟩ u2) (fun b => b = g) :=
  (((Kept.refl w (fun b => b = g)).setCell (p := ⟨g, 0, none⟩) (fun _ => rfl) u0).setCell (p := ⟨g, 1, none⟩) (fun _ => rfl) u1).setCell (p := ⟨g, 2, none⟩) (fun _ => rfl) u2
end

theorem model_any (p k o n : Int) (w : World) : Calls Try.prog 13 #[hv p k o n] w fun e w' => e = .returned (hv p k o n) ∧ Below w.heap.size w w' := by
  have HB := Lib.hid (fun (o1 o2 : Obj) => ((Below.refl w.heap.size w).alloc (Nat.le_refl _) o1).alloc (by simp) o2)
  go_enter Try.func13, Try.ntmps13
  go_wp2_with fail
  refine bodyPost_ret (v := hv p k o n) ?_ rfl ?_
  · simp [results, go_sem]
  · exact ⟨rfl, HB.out _ _⟩
theorem rright8_any (p k o n : Int) (w : World) :
    Calls Try.prog 26 #[hv p k o n] w fun e w' => e = .returned (.bool (M.right p k)) ∧ Below w.heap.size w w' := by
  have HB := Lib.hid ((Below.refl w.heap.size w).alloc (Nat.le_refl _) (.cells #[.int .i64 p, .int .i64 k, .int .u64 o, .int .u64 n] 37))
  by_cases h1 : 0 < p
  · skip
    by_cases h2 : p ≤ 1048576
    · skip
      by_cases h3 : 0 ≤ k
      · skip
        by_cases h4 : k ≤ 255
        · skip
          have HR := Lib.hid (show M.right p k = true by rw [M.right_iff]; omega)
          have e1 : decide (0 < p) = true := by simpa using h1
          have e2 : decide (p ≤ 1048576) = true := by simpa using h2
          have e3 : decide (0 ≤ k) = true := by simpa using h3
          have e4 : decide (k ≤ 255) = true := by simpa using h4
          clear h1 h2 h3 h4
          go_enter Try.func26, Try.ntmps26
          go_wp2
          go_ret
          exact ⟨by rw [HR.out]; rfl, HB.out⟩
        · skip
          have HR := Lib.hid (show M.right p k = false by rw [M.right_not]; omega)
          have e1 : decide (0 < p) = true := by simpa using h1
          have e2 : decide (p ≤ 1048576) = true := by simpa using h2
          have e3 : decide (0 ≤ k) = true := by simpa using h3
          have e4 : decide (k ≤ 255) = false := by simpa using h4
          clear h1 h2 h3 h4
          go_enter Try.func26, Try.ntmps26
          go_wp2
          go_ret
          exact ⟨by rw [HR.out]; rfl, HB.out⟩
      · skip
        have HR := Lib.hid (show M.right p k = false by rw [M.right_not]; omega)
        have e1 : decide (0 < p) = true := by simpa using h1
        have e2 : decide (p ≤ 1048576) = true := by simpa using h2
        have e3 : decide (0 ≤ k) = false := by simpa using h3
        clear h1 h2 h3
        go_enter Try.func26, Try.ntmps26
        go_wp2
        go_ret
        exact ⟨by rw [HR.out]; rfl, HB.out⟩
    · skip
      have HR := Lib.hid (show M.right p k = false by rw [M.right_not]; omega)
      have e1 : decide (0 < p) = true := by simpa using h1
      have e2 : decide (p ≤ 1048576) = false := by simpa using h2
      clear h1 h2
      go_enter Try.func26, Try.ntmps26
      go_wp2
      go_ret
      exact ⟨by rw [HR.out]; rfl, HB.out⟩
  · skip
    have HR := Lib.hid (show M.right p k = false by rw [M.right_not]; omega)
    have e1 : decide (0 < p) = false := by simpa using h1
    clear h1
    go_enter Try.func26, Try.ntmps26
    go_wp2
    go_ret
    exact ⟨by rw [HR.out]; rfl, HB.out⟩
theorem rin8_any (w : World) (P : Nat) (A : Option Addr) (n c T : Nat) (x : Int) :
    Calls Try.prog 27 #[refV P A n c T, .int .i64 x] w fun e w' => e = .returned (.bool (pin P x)) ∧ Below w.heap.size w w' := by
  have HB := Lib.hid ((Below.refl w.heap.size w).alloc (Nat.le_refl _) (.cells #[.int .i64 (P : Int), .slice A n c, .int .i64 (T : Int)] 29))
  by_cases h0 : 0 ≤ x
  · have e0 : decide (0 ≤ x) = true := by simpa using h0
    by_cases h1 : x < (P : Int)
    · have e1 : decide (x < (P : Int)) = true := by simpa using h1
      have HR := Lib.hid (show pin P x = true by unfold pin; rw [e0, e1]; rfl)
      clear h0 h1
      go_enter Try.func27, Try.ntmps27
      go_wp2
      go_ret
      exact ⟨by rw [HR.out]; rfl, HB.out⟩
    · have e1 : decide (x < (P : Int)) = false := by simpa using h1
      have HR := Lib.hid (show pin P x = false by unfold pin; rw [e0, e1]; rfl)
      clear h0 h1
      go_enter Try.func27, Try.ntmps27
      go_wp2
      go_ret
      exact ⟨by rw [HR.out]; rfl, HB.out⟩
  · have e0 : decide (0 ≤ x) = false := by simpa using h0
    have HR := Lib.hid (show pin P x = false by unfold pin; rw [e0]; rfl)
    clear h0
    go_enter Try.func27, Try.ntmps27
    go_wp2
    go_ret
    exact ⟨by rw [HR.out]; rfl, HB.out⟩
theorem str_app (a b : List UInt8) : ({ data := a.toArray } ++ { data := b.toArray } : ByteArray) = { data := (a ++ b).toArray } := ByteArray.mk_append_mk a b
theorem str5 (a b c d e : List UInt8) : (((({ data := a.toArray } ++ { data := b.toArray }) ++ { data := c.toArray }) ++ { data := d.toArray }) ++ { data := e.toArray } : ByteArray) = { data := (a ++ (b ++ (c ++ (d ++ e)))).toArray } := by
  rw [str_app, str_app, str_app, str_app]
  simp only [List.append_assoc]
theorem retA {a b : ByteArray} (h : a = b) : Ending.returned (.string a) = .returned (.string b) := by rw [h]
set_option maxHeartbeats 8000000 in
theorem rbytes8_int (x y : Int) (p k o n : Nat) (ex : x = p) (ey : y = k) (hp : p < 4294967296) (hk : k < 4294967296) (ho : o < 18446744073709551616) (hn : n < 18446744073709551616) (w : World) :
    Calls Try.prog 28 #[hv x y o n] w fun e w' => e = .returned (.string ⟨(M.hd p k o n).toArray⟩) ∧ Below w.heap.size w w' := by
  have hwx : IntKind.u64.wrap x = x := by rw [wrapU]; omega
  have hwy : IntKind.u64.wrap y = y := by rw [wrapU]; omega
  have O1 := Lib.hid (fun W => rOne_any 4 p (by omega) (by omega) W)
  have O2 := Lib.hid (fun W => rOne_any 4 k (by omega) (by omega) W)
  have O3 := Lib.hid (fun W => rOne_any 8 o (by omega) ho W)
  have O4 := Lib.hid (fun W => rOne_any 8 n (by omega) hn W)
  rw [← ex] at O1
  rw [← ey] at O2
  have e1 : (M.enc 4 p).length ≤ 8 := by rw [M.enc_length]; omega
  have e2 : (M.enc 4 k).length ≤ 8 := by rw [M.enc_length]; omega
  have e3 : (M.enc 8 o).length ≤ 8 := by rw [M.enc_length]; omega
  have e4 : (M.enc 8 n).length ≤ 8 := by rw [M.enc_length]; omega
  have HD := Lib.hid (show M.hd p k o n = [115, 116, 101, 97, 100, 105, 110, 103] ++ (M.enc 4 p ++ (M.enc 4 k ++ (M.enc 8 o ++ M.enc 8 n))) from rfl)
  generalize M.enc 4 p = E1 at *
  generalize M.enc 4 k = E2 at *
  generalize M.enc 8 o = E3 at *
  generalize M.enc 8 n = E4 at *
  have h1 : ¬ (9223372036854775807 < 8 + E1.length) := by omega
  have h2 : ¬ (9223372036854775807 < 8 + E1.length + E2.length) := by omega
  have h3 : ¬ (9223372036854775807 < 8 + E1.length + E2.length + E3.length) := by omega
  have h4 : ¬ (9223372036854775807 < 8 + E1.length + E2.length + E3.length + E4.length) := by omega
  clear ex ey hp hk ho hn
  have x1 := Box4.new w 37 (.int .i64 x) (.int .i64 y) (.int .u64 (o : Int)) (.int .u64 (n : Int))
  have b1 := below_new w (.cells #[.int .i64 x, .int .i64 y, .int .u64 (o : Int), .int .u64 (n : Int)] 37)
  go_enter Try.func28, Try.ntmps28
  go_wp2_with fail
  generalize w.alloc (.cells #[.int .i64 x, .int .i64 y, .int .u64 (o : Int), .int .u64 (n : Int)] 37) = w1 at *
  obtain ⟨b0, hb0⟩ : ∃ b0, b0 = w.heap.size := ⟨_, rfl⟩
  rw [← hb0] at x1 ⊢
  have BB := Lib.hid b1
  have HC := Lib.hid (show ∀ W, Below w1.heap.size w1 W → W.cell? ⟨b0, 0, none⟩ = some (.int .i64 x) ∧ W.cell? ⟨b0, 1, none⟩ = some (.int .i64 y) ∧ W.cell? ⟨b0, 2, none⟩ = some (.int .u64 (o : Int)) ∧ W.cell? ⟨b0, 3, none⟩ = some (.int .u64 (n : Int)) from
    fun W hW => ⟨(x1.below hW).c0, (x1.below hW).c1, (x1.below hW).c2, (x1.below hW).c3⟩)
  have B0 := Lib.hid ((Below.refl w1.heap.size w1).drew)
  clear x1 b1 hb0
  refine wp_region_noPanic ?_
  refine wp_region_held_drew (S := fun W => W.cell? ⟨b0, 0, none⟩ = some (.int .i64 x) ∧ W.cell? ⟨b0, 1, none⟩ = some (.int .i64 y) ∧ W.cell? ⟨b0, 2, none⟩ = some (.int .u64 (o : Int)) ∧ W.cell? ⟨b0, 3, none⟩ = some (.int .u64 (n : Int))) (by kernel_rfl) (HC.out _ B0.out) (fun hHeld => ?_)
  refine wpAnyH_take (i := 0) (oi := ({ dst := some 3, op := Op.fieldAddr 37 (Operand.tmp 1) 0, type := 0, pos := "ref.go:28", after := #[], guard := none } : Oper)) (v := ?_) rfl (by kernel_rfl) (by kernel_rfl) (by kernel_rfl) (fun _ _ _ h => h) (Or.inl ⟨by rfl, ?_⟩) (by assumption) ?_
  rotate_left
  · (intro w hSw; (try dsimp only at hSw); go_simp) <;> with_reducible rfl
  (try simp only [Act.put, List.setIfInBounds_toArray, List.set_cons_zero, List.set_cons_succ])
  refine wpAnyH_take (i := 1) (oi := ({ dst := some 4, op := Op.load 3 (Operand.tmp 3), type := 3, pos := "ref.go:28", after := #[{ on := 0, ground := Ground.data }], guard := none } : Oper)) (v := ?_) rfl (by kernel_rfl) (by kernel_rfl) (by kernel_rfl) (fun _ _ _ h => h) (Or.inl ⟨by rfl, ?_⟩) (by assumption) ?_
  rotate_left
  · (intro w hSw; (try dsimp only at hSw); go_simp) <;> with_reducible rfl
  (try simp only [Act.put, List.setIfInBounds_toArray, List.set_cons_zero, List.set_cons_succ])
  refine wpAnyH_take (i := 2) (oi := ({ dst := some 5, op := Op.convert 3 31 (Operand.tmp 4), type := 31, pos := "ref.go:28", after := #[{ on := 1, ground := Ground.data }], guard := none } : Oper)) (v := ?_) rfl (by kernel_rfl) (by kernel_rfl) (by kernel_rfl) (fun _ _ _ h => h) (Or.inl ⟨by rfl, ?_⟩) (by assumption) ?_
  rotate_left
  · (intro w hSw; (try dsimp only at hSw); go_simp) <;> with_reducible rfl
  (try simp only [Act.put, List.setIfInBounds_toArray, List.set_cons_zero, List.set_cons_succ])
  refine wpAnyH_take (i := 5) (oi := ({ dst := some 8, op := Op.fieldAddr 37 (Operand.tmp 1) 1, type := 0, pos := "ref.go:28", after := #[], guard := none } : Oper)) (v := ?_) rfl (by kernel_rfl) (by kernel_rfl) (by kernel_rfl) (fun _ _ _ h => h) (Or.inl ⟨by rfl, ?_⟩) (by assumption) ?_
  rotate_left
  · (intro w hSw; (try dsimp only at hSw); go_simp) <;> with_reducible rfl
  (try simp only [Act.put, List.setIfInBounds_toArray, List.set_cons_zero, List.set_cons_succ])
  refine wpAnyH_take (i := 6) (oi := ({ dst := some 9, op := Op.load 3 (Operand.tmp 8), type := 3, pos := "ref.go:28", after := #[{ on := 5, ground := Ground.data }], guard := none } : Oper)) (v := ?_) rfl (by kernel_rfl) (by kernel_rfl) (by kernel_rfl) (fun _ _ _ h => h) (Or.inl ⟨by rfl, ?_⟩) (by assumption) ?_
  rotate_left
  · (intro w hSw; (try dsimp only at hSw); go_simp) <;> with_reducible rfl
  (try simp only [Act.put, List.setIfInBounds_toArray, List.set_cons_zero, List.set_cons_succ])
  refine wpAnyH_take (i := 7) (oi := ({ dst := some 10, op := Op.convert 3 31 (Operand.tmp 9), type := 31, pos := "ref.go:28", after := #[{ on := 6, ground := Ground.data }], guard := none } : Oper)) (v := ?_) rfl (by kernel_rfl) (by kernel_rfl) (by kernel_rfl) (fun _ _ _ h => h) (Or.inl ⟨by rfl, ?_⟩) (by assumption) ?_
  rotate_left
  · (intro w hSw; (try dsimp only at hSw); go_simp) <;> with_reducible rfl
  (try simp only [Act.put, List.setIfInBounds_toArray, List.set_cons_zero, List.set_cons_succ])
  refine wpAnyH_take (i := 10) (oi := ({ dst := some 13, op := Op.fieldAddr 37 (Operand.tmp 1) 2, type := 0, pos := "ref.go:28", after := #[], guard := none } : Oper)) (v := ?_) rfl (by kernel_rfl) (by kernel_rfl) (by kernel_rfl) (fun _ _ _ h => h) (Or.inl ⟨by rfl, ?_⟩) (by assumption) ?_
  rotate_left
  · (intro w hSw; (try dsimp only at hSw); go_simp) <;> with_reducible rfl
  (try simp only [Act.put, List.setIfInBounds_toArray, List.set_cons_zero, List.set_cons_succ])
  refine wpAnyH_take (i := 11) (oi := ({ dst := some 14, op := Op.load 31 (Operand.tmp 13), type := 31, pos := "ref.go:28", after := #[{ on := 10, ground := Ground.data }], guard := none } : Oper)) (v := ?_) rfl (by kernel_rfl) (by kernel_rfl) (by kernel_rfl) (fun _ _ _ h => h) (Or.inl ⟨by rfl, ?_⟩) (by assumption) ?_
  rotate_left
  · (intro w hSw; (try dsimp only at hSw); go_simp) <;> with_reducible rfl
  (try simp only [Act.put, List.setIfInBounds_toArray, List.set_cons_zero, List.set_cons_succ])
  refine wpAnyH_take (i := 14) (oi := ({ dst := some 17, op := Op.fieldAddr 37 (Operand.tmp 1) 3, type := 0, pos := "ref.go:28", after := #[], guard := none } : Oper)) (v := ?_) rfl (by kernel_rfl) (by kernel_rfl) (by kernel_rfl) (fun _ _ _ h => h) (Or.inl ⟨by rfl, ?_⟩) (by assumption) ?_
  rotate_left
  · (intro w hSw; (try dsimp only at hSw); go_simp) <;> with_reducible rfl
  (try simp only [Act.put, List.setIfInBounds_toArray, List.set_cons_zero, List.set_cons_succ])
  refine wpAnyH_take (i := 15) (oi := ({ dst := some 18, op := Op.load 31 (Operand.tmp 17), type := 31, pos := "ref.go:28", after := #[{ on := 14, ground := Ground.data }], guard := none } : Oper)) (v := ?_) rfl (by kernel_rfl) (by kernel_rfl) (by kernel_rfl) (fun _ _ _ h => h) (Or.inl ⟨by rfl, ?_⟩) (by assumption) ?_
  rotate_left
  · (intro w hSw; (try dsimp only at hSw); go_simp) <;> with_reducible rfl
  (try simp only [Act.put, List.setIfInBounds_toArray, List.set_cons_zero, List.set_cons_succ])
  refine wpAnyH_ready (rs := [3]) (by kernel_rfl) (by simp) ?_
  refine AllReadyH.cons (o := ({ dst := some 6, op := Op.call { callee := Callee.value (Operand.func 48), args := #[Operand.const (Value.int IntKind.i64 4), Operand.tmp 5], argTypes := #[3, 31] }, type := 9, pos := "ref.go:28", after := #[{ on := 2, ground := Ground.data }], guard := none } : Oper)) rfl (fun K hK => ?_) ?_
  · go_simp
    refine (O1.out _).mono ?_
    rintro e y1 ⟨rfl, d1⟩
    have B1 := Lib.hid (below_call B0.out d1)
    clear d1
    go_wp2_with fail
    refine hK.out _ _ ?_ (fun hHeld => ?_)
    · exact HC.out _ B1.out
    clear hK K
    (try simp only [Act.put, List.setIfInBounds_toArray, List.set_cons_zero, List.set_cons_succ])
    refine wpAnyH_take (i := 4) (oi := ({ dst := some 7, op := Op.binOp BinOp.add 9 (Operand.const (Value.string { data := #[115, 116, 101, 97, 100, 105, 110, 103] })) (Operand.tmp 6) 9, type := 9, pos := "ref.go:28", after := #[{ on := 3, ground := Ground.data }], guard := none } : Oper)) (v := ?_) rfl (by kernel_rfl) (by kernel_rfl) (by kernel_rfl) (fun _ _ _ h => h) (Or.inl ⟨by rfl, ?_⟩) (by assumption) ?_
    rotate_left
    · (intro w hSw; (try dsimp only at hSw); go_simp) <;> with_reducible rfl
    (try simp only [Act.put, List.setIfInBounds_toArray, List.set_cons_zero, List.set_cons_succ])
    refine wpAnyH_ready (rs := [8]) (by kernel_rfl) (by simp) ?_
    refine AllReadyH.cons (o := ({ dst := some 11, op := Op.call { callee := Callee.value (Operand.func 48), args := #[Operand.const (Value.int IntKind.i64 4), Operand.tmp 10], argTypes := #[3, 31] }, type := 9, pos := "ref.go:28", after := #[{ on := 7, ground := Ground.data }, { on := 3, ground := Ground.chain }], guard := none } : Oper)) rfl (fun K hK => ?_) ?_
    · go_simp
      refine (O2.out _).mono ?_
      rintro e y2 ⟨rfl, d2⟩
      have B2 := Lib.hid (below_call B1.out d2)
      clear d2
      go_wp2_with fail
      refine hK.out _ _ ?_ (fun hHeld => ?_)
      · exact HC.out _ B2.out
      clear hK K
      (try simp only [Act.put, List.setIfInBounds_toArray, List.set_cons_zero, List.set_cons_succ])
      refine wpAnyH_take (i := 9) (oi := ({ dst := some 12, op := Op.binOp BinOp.add 9 (Operand.tmp 7) (Operand.tmp 11) 9, type := 9, pos := "ref.go:28", after := #[{ on := 4, ground := Ground.data }, { on := 8, ground := Ground.data }], guard := none } : Oper)) (v := ?_) rfl (by kernel_rfl) (by kernel_rfl) (by kernel_rfl) (fun _ _ _ h => h) (Or.inl ⟨by rfl, ?_⟩) (by assumption) ?_
      rotate_left
      · (intro w hSw; (try dsimp only at hSw); go_simp) <;> with_reducible rfl
      (try simp only [Act.put, List.setIfInBounds_toArray, List.set_cons_zero, List.set_cons_succ])
      refine wpAnyH_ready (rs := [12]) (by kernel_rfl) (by simp) ?_
      refine AllReadyH.cons (o := ({ dst := some 15, op := Op.call { callee := Callee.value (Operand.func 48), args := #[Operand.const (Value.int IntKind.i64 8), Operand.tmp 14], argTypes := #[3, 31] }, type := 9, pos := "ref.go:28", after := #[{ on := 11, ground := Ground.data }, { on := 8, ground := Ground.chain }], guard := none } : Oper)) rfl (fun K hK => ?_) ?_
      · go_simp
        refine (O3.out _).mono ?_
        rintro e y3 ⟨rfl, d3⟩
        have B3 := Lib.hid (below_call B2.out d3)
        clear d3
        go_wp2_with fail
        refine hK.out _ _ ?_ (fun hHeld => ?_)
        · exact HC.out _ B3.out
        clear hK K
        (try simp only [Act.put, List.setIfInBounds_toArray, List.set_cons_zero, List.set_cons_succ])
        refine wpAnyH_take (i := 13) (oi := ({ dst := some 16, op := Op.binOp BinOp.add 9 (Operand.tmp 12) (Operand.tmp 15) 9, type := 9, pos := "ref.go:28", after := #[{ on := 9, ground := Ground.data }, { on := 12, ground := Ground.data }], guard := none } : Oper)) (v := ?_) rfl (by kernel_rfl) (by kernel_rfl) (by kernel_rfl) (fun _ _ _ h => h) (Or.inl ⟨by rfl, ?_⟩) (by assumption) ?_
        rotate_left
        · (intro w hSw; (try dsimp only at hSw); go_simp) <;> with_reducible rfl
        (try simp only [Act.put, List.setIfInBounds_toArray, List.set_cons_zero, List.set_cons_succ])
        refine wpAnyH_ready (rs := [16]) (by kernel_rfl) (by simp) ?_
        refine AllReadyH.cons (o := ({ dst := some 19, op := Op.call { callee := Callee.value (Operand.func 48), args := #[Operand.const (Value.int IntKind.i64 8), Operand.tmp 18], argTypes := #[3, 31] }, type := 9, pos := "ref.go:28", after := #[{ on := 15, ground := Ground.data }, { on := 12, ground := Ground.chain }], guard := none } : Oper)) rfl (fun K hK => ?_) ?_
        · go_simp
          refine (O4.out _).mono ?_
          rintro e y4 ⟨rfl, d4⟩
          have B4 := Lib.hid (below_call B3.out d4)
          clear d4
          go_wp2_with fail
          refine hK.out _ _ ?_ (fun hHeld => ?_)
          · exact HC.out _ B4.out
          clear hK K
          (try simp only [Act.put, List.setIfInBounds_toArray, List.set_cons_zero, List.set_cons_succ])
          refine wpAnyH_take (i := 17) (oi := ({ dst := some 20, op := Op.binOp BinOp.add 9 (Operand.tmp 16) (Operand.tmp 19) 9, type := 9, pos := "ref.go:28", after := #[{ on := 13, ground := Ground.data }, { on := 16, ground := Ground.data }], guard := none } : Oper)) (v := ?_) rfl (by kernel_rfl) (by kernel_rfl) (by kernel_rfl) (fun _ _ _ h => h) (Or.inl ⟨by rfl, ?_⟩) (by assumption) ?_
          rotate_left
          · (intro w hSw; (try dsimp only at hSw); go_simp) <;> with_reducible rfl
          (try simp only [Act.put, List.setIfInBounds_toArray, List.set_cons_zero, List.set_cons_succ])
          refine wpAnyH_take (i := 18) (oi := ({ dst := some 2, op := Op.assign (Operand.tmp 20), type := 9, pos := "ref.go:28", after := #[{ on := 17, ground := Ground.data }, { on := 16, ground := Ground.chain }, { on := 0, ground := Ground.phase }, { on := 1, ground := Ground.phase }, { on := 2, ground := Ground.phase }, { on := 3, ground := Ground.phase }, { on := 4, ground := Ground.phase }, { on := 5, ground := Ground.phase }, { on := 6, ground := Ground.phase }, { on := 7, ground := Ground.phase }, { on := 8, ground := Ground.phase }, { on := 9, ground := Ground.phase }, { on := 10, ground := Ground.phase }, { on := 11, ground := Ground.phase }, { on := 12, ground := Ground.phase }, { on := 13, ground := Ground.phase }, { on := 14, ground := Ground.phase }, { on := 15, ground := Ground.phase }, { on := 16, ground := Ground.phase }, { on := 17, ground := Ground.phase }], guard := none } : Oper)) (v := ?_) rfl (by kernel_rfl) (by kernel_rfl) (by kernel_rfl) (fun _ _ _ h => h) (Or.inl ⟨by rfl, ?_⟩) (by assumption) ?_
          rotate_left
          · (intro w hSw; (try dsimp only at hSw); go_simp) <;> with_reducible rfl
          (try simp only [Act.put, List.setIfInBounds_toArray, List.set_cons_zero, List.set_cons_succ])
          refine wpAnyH_done (by kernel_rfl) ?_ _
          refine NoPanic.normal ?_
          go_wp2_with fail
          go_ret
          refine ⟨?_, below_call BB.out B4.out⟩
          rw [HD.out]
          exact retA (str5 [115, 116, 101, 97, 100, 105, 110, 103] E1 E2 E3 E4)
        exact AllReadyH.nil
      exact AllReadyH.nil
    exact AllReadyH.nil
  exact AllReadyH.nil
set_option maxHeartbeats 8000000 in
theorem rof8_go (b S0 S1 S2 S3 S4 : List UInt8) (hb : b.length = 32) (e0 : S0 = b.take 8) (e1 : S1 = M.seg b 8 4) (e2 : S2 = M.seg b 12 4) (e3 : S3 = M.seg b 16 8) (e4 : S4 = M.seg b 24 8) (B R : Bool) (p k o n : Nat)
    (hp : p = M.num S1) (hk : k = M.num S2) (ho : o = M.num S3) (hn : n = M.num S4) (hB : B = decide (S0 = [115, 116, 101, 97, 100, 105, 110, 103])) (hR : R = M.right (p : Nat) (k : Nat)) (w : World) :
    Calls Try.prog 33 #[.string ⟨b.toArray⟩] w fun e w' => e = .returned (.tuple #[if (B && R) = true then hv p k o n else hv 0 0 0 0, .bool (B && R)]) ∧ Below w.heap.size w w' := by
  have hp4 : p < 4294967296 := by have := M.num_seg_lt b 8 4 (by omega); rw [hp, e1]; simpa using this
  have hk4 : k < 4294967296 := by have := M.num_seg_lt b 12 4 (by omega); rw [hk, e2]; simpa using this
  have l8 : (8 : Int) ≤ (b.length : Int) := by omega
  have l12 : (12 : Int) ≤ (b.length : Int) := by omega
  have l16 : (16 : Int) ≤ (b.length : Int) := by omega
  have l24 : (24 : Int) ≤ (b.length : Int) := by omega
  have l32 : (32 : Int) ≤ (b.length : Int) := by omega
  have s0 : (ByteArray.mk b.toArray).extract 0 8 = ByteArray.mk S0.toArray := by rw [e0]; exact extract_seg b 0 8
  have s1 : (ByteArray.mk b.toArray).extract 8 12 = ByteArray.mk S1.toArray := by rw [e1]; exact extract_seg b 8 4
  have s2 : (ByteArray.mk b.toArray).extract 12 16 = ByteArray.mk S2.toArray := by rw [e2]; exact extract_seg b 12 4
  have s3 : (ByteArray.mk b.toArray).extract 16 24 = ByteArray.mk S3.toArray := by rw [e3]; exact extract_seg b 16 8
  have s4 : (ByteArray.mk b.toArray).extract 24 32 = ByteArray.mk S4.toArray := by rw [e4]; exact extract_seg b 24 8
  have N1 := Lib.hid (fun W => rNumber_any S1 (by rw [e1, M.seg_length b 8 4 (by omega)]; omega) W)
  have N2 := Lib.hid (fun W => rNumber_any S2 (by rw [e2, M.seg_length b 12 4 (by omega)]; omega) W)
  have N3 := Lib.hid (fun W => rNumber_any S3 (by rw [e3, M.seg_length b 16 8 (by omega)]; omega) W)
  have N4 := Lib.hid (fun W => rNumber_any S4 (by rw [e4, M.seg_length b 24 8 (by omega)]; omega) W)
  rw [← hp] at N1
  rw [← hk] at N2
  rw [← ho] at N3
  rw [← hn] at N4
  obtain ⟨x, hx⟩ : ∃ x : Int, x = p := ⟨_, rfl⟩
  obtain ⟨y, hy⟩ : ∃ y : Int, y = k := ⟨_, rfl⟩
  have hwx : wrap64 x = x := by unfold wrap64; omega
  have hwy : wrap64 y = y := by unfold wrap64; omega
  have hvx : IntKind.i64.wrap x = x := IntWalk.i64_in _ (by omega)
  have hvy : IntKind.i64.wrap y = y := IntWalk.i64_in _ (by omega)
  rw [← hx] at N1 hR ⊢
  rw [← hy] at N2 hR ⊢
  have HR := Lib.hid (And.intro hR hB)
  clear hb e0 e1 e2 e3 e4 hp hk ho hn hR hB hp4 hk4 hx hy
  have x1 := Box4.new w 37 (.int .i64 0) (.int .i64 0) (.int .u64 0) (.int .u64 0)
  have b1 := below_new w (.cells #[.int .i64 0, .int .i64 0, .int .u64 0, .int .u64 0] 37)
  go_enter Try.func33, Try.ntmps33
  go_wp2_with fail
  generalize w.alloc (.cells #[.int .i64 0, .int .i64 0, .int .u64 0, .int .u64 0] 37) = w1 at *
  obtain ⟨g2, hg2⟩ : ∃ g2, g2 = w.heap.size := ⟨_, rfl⟩
  rw [← hg2] at x1 ⊢
  have X1 := Lib.hid (And.intro x1 (And.intro b1 hg2))
  clear x1 b1 hg2
  go_cut [4] (fun v4 wx => ∃ g4, v4 = .pointer (some ⟨g4, 0, none⟩) ∧ Box4 wx g4 (.int .i64 x) (.int .i64 y) (.int .u64 (o : Int)) (.int .u64 (n : Int)) ∧ Below w1.heap.size w1 wx ∧ g2 < g4)
  case first =>
    refine wp_region_noPanic ?_
    refine wp_region_held_drew (S := fun _ => True) (by kernel_rfl) (trivial) (fun hHeld => ?_)
    refine wpAnyH_take (i := 0) (oi := ({ dst := some 6, op := Op.move (Operand.tmp 0), type := 9, pos := "ref.go:46", after := #[], guard := none } : Oper)) (v := ?_) rfl (by kernel_rfl) (by kernel_rfl) (by kernel_rfl) (fun _ _ _ h => h) (Or.inl ⟨by rfl, ?_⟩) (by assumption) ?_
    rotate_left
    · (intro w hSw; (try dsimp only at hSw); go_simp) <;> with_reducible rfl
    (try simp only [Act.put, List.setIfInBounds_toArray, List.set_cons_zero, List.set_cons_succ])
    refine wpAnyH_take (i := 1) (oi := ({ dst := some 7, op := Op.slice 9 (Operand.tmp 6) (some (Operand.const (Value.int IntKind.i64 8))) (some (Operand.const (Value.int IntKind.i64 12))) none, type := 9, pos := "ref.go:46", after := #[{ on := 0, ground := Ground.data }], guard := none } : Oper)) (v := ?_) rfl (by kernel_rfl) (by kernel_rfl) (by kernel_rfl) (fun _ _ _ h => h) (Or.inl ⟨by rfl, ?_⟩) (by assumption) ?_
    rotate_left
    · (intro w hSw; (try dsimp only at hSw); go_simp) <;> with_reducible rfl
    (try simp only [Act.put, List.setIfInBounds_toArray, List.set_cons_zero, List.set_cons_succ])
    refine wpAnyH_take (i := 4) (oi := ({ dst := some 10, op := Op.move (Operand.tmp 0), type := 9, pos := "ref.go:46", after := #[], guard := none } : Oper)) (v := ?_) rfl (by kernel_rfl) (by kernel_rfl) (by kernel_rfl) (fun _ _ _ h => h) (Or.inl ⟨by rfl, ?_⟩) (by assumption) ?_
    rotate_left
    · (intro w hSw; (try dsimp only at hSw); go_simp) <;> with_reducible rfl
    (try simp only [Act.put, List.setIfInBounds_toArray, List.set_cons_zero, List.set_cons_succ])
    refine wpAnyH_take (i := 5) (oi := ({ dst := some 11, op := Op.slice 9 (Operand.tmp 10) (some (Operand.const (Value.int IntKind.i64 12))) (some (Operand.const (Value.int IntKind.i64 16))) none, type := 9, pos := "ref.go:46", after := #[{ on := 4, ground := Ground.data }], guard := none } : Oper)) (v := ?_) rfl (by kernel_rfl) (by kernel_rfl) (by kernel_rfl) (fun _ _ _ h => h) (Or.inl ⟨by rfl, ?_⟩) (by assumption) ?_
    rotate_left
    · (intro w hSw; (try dsimp only at hSw); go_simp) <;> with_reducible rfl
    (try simp only [Act.put, List.setIfInBounds_toArray, List.set_cons_zero, List.set_cons_succ])
    refine wpAnyH_take (i := 8) (oi := ({ dst := some 14, op := Op.move (Operand.tmp 0), type := 9, pos := "ref.go:46", after := #[], guard := none } : Oper)) (v := ?_) rfl (by kernel_rfl) (by kernel_rfl) (by kernel_rfl) (fun _ _ _ h => h) (Or.inl ⟨by rfl, ?_⟩) (by assumption) ?_
    rotate_left
    · (intro w hSw; (try dsimp only at hSw); go_simp) <;> with_reducible rfl
    (try simp only [Act.put, List.setIfInBounds_toArray, List.set_cons_zero, List.set_cons_succ])
    refine wpAnyH_take (i := 9) (oi := ({ dst := some 15, op := Op.slice 9 (Operand.tmp 14) (some (Operand.const (Value.int IntKind.i64 16))) (some (Operand.const (Value.int IntKind.i64 24))) none, type := 9, pos := "ref.go:46", after := #[{ on := 8, ground := Ground.data }], guard := none } : Oper)) (v := ?_) rfl (by kernel_rfl) (by kernel_rfl) (by kernel_rfl) (fun _ _ _ h => h) (Or.inl ⟨by rfl, ?_⟩) (by assumption) ?_
    rotate_left
    · (intro w hSw; (try dsimp only at hSw); go_simp) <;> with_reducible rfl
    (try simp only [Act.put, List.setIfInBounds_toArray, List.set_cons_zero, List.set_cons_succ])
    refine wpAnyH_take (i := 11) (oi := ({ dst := some 17, op := Op.move (Operand.tmp 0), type := 9, pos := "ref.go:46", after := #[], guard := none } : Oper)) (v := ?_) rfl (by kernel_rfl) (by kernel_rfl) (by kernel_rfl) (fun _ _ _ h => h) (Or.inl ⟨by rfl, ?_⟩) (by assumption) ?_
    rotate_left
    · (intro w hSw; (try dsimp only at hSw); go_simp) <;> with_reducible rfl
    (try simp only [Act.put, List.setIfInBounds_toArray, List.set_cons_zero, List.set_cons_succ])
    refine wpAnyH_take (i := 12) (oi := ({ dst := some 18, op := Op.slice 9 (Operand.tmp 17) (some (Operand.const (Value.int IntKind.i64 24))) (some (Operand.const (Value.int IntKind.i64 32))) none, type := 9, pos := "ref.go:46", after := #[{ on := 11, ground := Ground.data }], guard := none } : Oper)) (v := ?_) rfl (by kernel_rfl) (by kernel_rfl) (by kernel_rfl) (fun _ _ _ h => h) (Or.inl ⟨by rfl, ?_⟩) (by assumption) ?_
    rotate_left
    · (intro w hSw; (try dsimp only at hSw); go_simp) <;> with_reducible rfl
    (try simp only [Act.put, List.setIfInBounds_toArray, List.set_cons_zero, List.set_cons_succ])
    refine wpAnyH_ready (rs := [2, 15]) (by kernel_rfl) (by simp) ?_
    refine AllReadyH.cons (o := ({ dst := some 8, op := Op.call { callee := Callee.value (Operand.func 52), args := #[Operand.tmp 7], argTypes := #[9] }, type := 31, pos := "ref.go:46", after := #[{ on := 1, ground := Ground.data }], guard := none } : Oper)) rfl (fun K hK => ?_) ?_
    · go_simp
      refine (N1.out _).mono ?_
      rintro e w' ⟨rfl, rfl⟩
      go_wp2_with fail
      refine hK.out _ _ ?_ (fun hHeld => ?_)
      · trivial
      clear hK K
      (try simp only [Act.put, List.setIfInBounds_toArray, List.set_cons_zero, List.set_cons_succ])
      refine wpAnyH_take (i := 3) (oi := ({ dst := some 9, op := Op.convert 31 3 (Operand.tmp 8), type := 3, pos := "ref.go:46", after := #[{ on := 2, ground := Ground.data }], guard := none } : Oper)) (v := ?_) rfl (by kernel_rfl) (by kernel_rfl) (by kernel_rfl) (fun _ _ _ h => h) (Or.inl ⟨by rfl, ?_⟩) (by assumption) ?_
      rotate_left
      · (intro w hSw; (try dsimp only at hSw); go_simp) <;> with_reducible rfl
      (try simp only [Act.put, List.setIfInBounds_toArray, List.set_cons_zero, List.set_cons_succ])
      refine wpAnyH_ready (rs := [6, 15]) (by kernel_rfl) (by simp) ?_
      refine AllReadyH.cons (o := ({ dst := some 12, op := Op.call { callee := Callee.value (Operand.func 52), args := #[Operand.tmp 11], argTypes := #[9] }, type := 31, pos := "ref.go:46", after := #[{ on := 5, ground := Ground.data }, { on := 2, ground := Ground.chain }], guard := none } : Oper)) rfl (fun K hK => ?_) ?_
      · go_simp
        refine (N2.out _).mono ?_
        rintro e w' ⟨rfl, rfl⟩
        go_wp2_with fail
        refine hK.out _ _ ?_ (fun hHeld => ?_)
        · trivial
        clear hK K
        (try simp only [Act.put, List.setIfInBounds_toArray, List.set_cons_zero, List.set_cons_succ])
        refine wpAnyH_take (i := 7) (oi := ({ dst := some 13, op := Op.convert 31 3 (Operand.tmp 12), type := 3, pos := "ref.go:46", after := #[{ on := 6, ground := Ground.data }], guard := none } : Oper)) (v := ?_) rfl (by kernel_rfl) (by kernel_rfl) (by kernel_rfl) (fun _ _ _ h => h) (Or.inl ⟨by rfl, ?_⟩) (by assumption) ?_
        rotate_left
        · (intro w hSw; (try dsimp only at hSw); go_simp) <;> with_reducible rfl
        (try simp only [Act.put, List.setIfInBounds_toArray, List.set_cons_zero, List.set_cons_succ])
        refine wpAnyH_ready (rs := [10, 15]) (by kernel_rfl) (by simp) ?_
        refine AllReadyH.cons (o := ({ dst := some 16, op := Op.call { callee := Callee.value (Operand.func 52), args := #[Operand.tmp 15], argTypes := #[9] }, type := 31, pos := "ref.go:46", after := #[{ on := 9, ground := Ground.data }, { on := 6, ground := Ground.chain }], guard := none } : Oper)) rfl (fun K hK => ?_) ?_
        · go_simp
          refine (N3.out _).mono ?_
          rintro e w' ⟨rfl, rfl⟩
          go_wp2_with fail
          refine hK.out _ _ ?_ (fun hHeld => ?_)
          · trivial
          clear hK K
          (try simp only [Act.put, List.setIfInBounds_toArray, List.set_cons_zero, List.set_cons_succ])
          refine wpAnyH_ready (rs := [13, 15]) (by kernel_rfl) (by simp) ?_
          refine AllReadyH.cons (o := ({ dst := some 19, op := Op.call { callee := Callee.value (Operand.func 52), args := #[Operand.tmp 18], argTypes := #[9] }, type := 31, pos := "ref.go:46", after := #[{ on := 12, ground := Ground.data }, { on := 10, ground := Ground.chain }], guard := none } : Oper)) rfl (fun K hK => ?_) ?_
          · go_simp
            refine (N4.out _).mono ?_
            rintro e w' ⟨rfl, rfl⟩
            go_wp2_with fail
            refine hK.out _ _ ?_ (fun hHeld => ?_)
            · trivial
            clear hK K
            (try simp only [Act.put, List.setIfInBounds_toArray, List.set_cons_zero, List.set_cons_succ])
            refine wpAnyH_take (i := 14) (oi := ({ dst := some 20, op := Op.build 37 #[(0, Operand.tmp 9), (1, Operand.tmp 13), (2, Operand.tmp 16), (3, Operand.tmp 19)], type := 37, pos := "ref.go:46", after := #[{ on := 3, ground := Ground.data }, { on := 7, ground := Ground.data }, { on := 10, ground := Ground.data }, { on := 13, ground := Ground.data }], guard := none } : Oper)) (v := ?_) rfl (by kernel_rfl) (by kernel_rfl) (by kernel_rfl) (fun _ _ _ h => h) (Or.inl ⟨by rfl, ?_⟩) (by assumption) ?_
            rotate_left
            · (intro w hSw; (try dsimp only at hSw); go_simp) <;> with_reducible rfl
            (try simp only [Act.put, List.setIfInBounds_toArray, List.set_cons_zero, List.set_cons_succ])
            refine wpAnyH_ready (rs := [15]) (by kernel_rfl) (by simp) ?_
            refine AllReadyH.cons (o := ({ dst := some 4, op := Op.alloc 37, type := 0, pos := "ref.go:46", after := #[], guard := none } : Oper)) rfl (fun K hK => ?_) ?_
            · go_simp
              refine hK.out _ _ ?_ (fun hHeld => ?_)
              · trivial
              clear hK K
              (try simp only [Act.put, List.setIfInBounds_toArray, List.set_cons_zero, List.set_cons_succ])
              refine wpAnyH_ready (rs := [16]) (by kernel_rfl) (by simp) ?_
              refine AllReadyH.cons (o := ({ dst := none, op := Op.store 37 (Operand.tmp 4) (Operand.tmp 20), type := 0, pos := "ref.go:46", after := #[{ on := 15, ground := Ground.data }, { on := 14, ground := Ground.data }, { on := 13, ground := Ground.chain }, { on := 0, ground := Ground.phase }, { on := 1, ground := Ground.phase }, { on := 2, ground := Ground.phase }, { on := 3, ground := Ground.phase }, { on := 4, ground := Ground.phase }, { on := 5, ground := Ground.phase }, { on := 6, ground := Ground.phase }, { on := 7, ground := Ground.phase }, { on := 8, ground := Ground.phase }, { on := 9, ground := Ground.phase }, { on := 10, ground := Ground.phase }, { on := 11, ground := Ground.phase }, { on := 12, ground := Ground.phase }, { on := 13, ground := Ground.phase }, { on := 14, ground := Ground.phase }, { on := 15, ground := Ground.phase }], guard := none } : Oper)) rfl (fun K hK => ?_) ?_
              · go_simp
                refine hK.out _ _ ?_ (fun hHeld => ?_)
                · trivial
                clear hK K
                (try simp only [Act.put, List.setIfInBounds_toArray, List.set_cons_zero, List.set_cons_succ])
                refine wpAnyH_done (by kernel_rfl) ?_ _
                refine NoPanic.normal ?_
                go_wp2_with fail
                go_meet
                exact ⟨_, rfl, (Box4.new w1 37 _ _ _ _).below (Below.refl _ _).drew, (below_new _ _).drew, X1.out.1.lt⟩
              exact AllReadyH.nil
            exact AllReadyH.nil
          refine AllReadyH.cons (o := ({ dst := some 4, op := Op.alloc 37, type := 0, pos := "ref.go:46", after := #[], guard := none } : Oper)) rfl (fun K hK => ?_) ?_
          · go_simp
            refine hK.out _ _ ?_ (fun hHeld => ?_)
            · trivial
            clear hK K
            (try simp only [Act.put, List.setIfInBounds_toArray, List.set_cons_zero, List.set_cons_succ])
            refine wpAnyH_ready (rs := [13]) (by kernel_rfl) (by simp) ?_
            refine AllReadyH.cons (o := ({ dst := some 19, op := Op.call { callee := Callee.value (Operand.func 52), args := #[Operand.tmp 18], argTypes := #[9] }, type := 31, pos := "ref.go:46", after := #[{ on := 12, ground := Ground.data }, { on := 10, ground := Ground.chain }], guard := none } : Oper)) rfl (fun K hK => ?_) ?_
            · go_simp
              refine (N4.out _).mono ?_
              rintro e w' ⟨rfl, rfl⟩
              go_wp2_with fail
              refine hK.out _ _ ?_ (fun hHeld => ?_)
              · trivial
              clear hK K
              (try simp only [Act.put, List.setIfInBounds_toArray, List.set_cons_zero, List.set_cons_succ])
              refine wpAnyH_take (i := 14) (oi := ({ dst := some 20, op := Op.build 37 #[(0, Operand.tmp 9), (1, Operand.tmp 13), (2, Operand.tmp 16), (3, Operand.tmp 19)], type := 37, pos := "ref.go:46", after := #[{ on := 3, ground := Ground.data }, { on := 7, ground := Ground.data }, { on := 10, ground := Ground.data }, { on := 13, ground := Ground.data }], guard := none } : Oper)) (v := ?_) rfl (by kernel_rfl) (by kernel_rfl) (by kernel_rfl) (fun _ _ _ h => h) (Or.inl ⟨by rfl, ?_⟩) (by assumption) ?_
              rotate_left
              · (intro w hSw; (try dsimp only at hSw); go_simp) <;> with_reducible rfl
              (try simp only [Act.put, List.setIfInBounds_toArray, List.set_cons_zero, List.set_cons_succ])
              refine wpAnyH_ready (rs := [16]) (by kernel_rfl) (by simp) ?_
              refine AllReadyH.cons (o := ({ dst := none, op := Op.store 37 (Operand.tmp 4) (Operand.tmp 20), type := 0, pos := "ref.go:46", after := #[{ on := 15, ground := Ground.data }, { on := 14, ground := Ground.data }, { on := 13, ground := Ground.chain }, { on := 0, ground := Ground.phase }, { on := 1, ground := Ground.phase }, { on := 2, ground := Ground.phase }, { on := 3, ground := Ground.phase }, { on := 4, ground := Ground.phase }, { on := 5, ground := Ground.phase }, { on := 6, ground := Ground.phase }, { on := 7, ground := Ground.phase }, { on := 8, ground := Ground.phase }, { on := 9, ground := Ground.phase }, { on := 10, ground := Ground.phase }, { on := 11, ground := Ground.phase }, { on := 12, ground := Ground.phase }, { on := 13, ground := Ground.phase }, { on := 14, ground := Ground.phase }, { on := 15, ground := Ground.phase }], guard := none } : Oper)) rfl (fun K hK => ?_) ?_
              · go_simp
                refine hK.out _ _ ?_ (fun hHeld => ?_)
                · trivial
                clear hK K
                (try simp only [Act.put, List.setIfInBounds_toArray, List.set_cons_zero, List.set_cons_succ])
                refine wpAnyH_done (by kernel_rfl) ?_ _
                refine NoPanic.normal ?_
                go_wp2_with fail
                go_meet
                exact ⟨_, rfl, (Box4.new w1 37 _ _ _ _).below (Below.refl _ _).drew, (below_new _ _).drew, X1.out.1.lt⟩
              exact AllReadyH.nil
            exact AllReadyH.nil
          exact AllReadyH.nil
        refine AllReadyH.cons (o := ({ dst := some 4, op := Op.alloc 37, type := 0, pos := "ref.go:46", after := #[], guard := none } : Oper)) rfl (fun K hK => ?_) ?_
        · go_simp
          refine hK.out _ _ ?_ (fun hHeld => ?_)
          · trivial
          clear hK K
          (try simp only [Act.put, List.setIfInBounds_toArray, List.set_cons_zero, List.set_cons_succ])
          refine wpAnyH_ready (rs := [10]) (by kernel_rfl) (by simp) ?_
          refine AllReadyH.cons (o := ({ dst := some 16, op := Op.call { callee := Callee.value (Operand.func 52), args := #[Operand.tmp 15], argTypes := #[9] }, type := 31, pos := "ref.go:46", after := #[{ on := 9, ground := Ground.data }, { on := 6, ground := Ground.chain }], guard := none } : Oper)) rfl (fun K hK => ?_) ?_
          · go_simp
            refine (N3.out _).mono ?_
            rintro e w' ⟨rfl, rfl⟩
            go_wp2_with fail
            refine hK.out _ _ ?_ (fun hHeld => ?_)
            · trivial
            clear hK K
            (try simp only [Act.put, List.setIfInBounds_toArray, List.set_cons_zero, List.set_cons_succ])
            refine wpAnyH_ready (rs := [13]) (by kernel_rfl) (by simp) ?_
            refine AllReadyH.cons (o := ({ dst := some 19, op := Op.call { callee := Callee.value (Operand.func 52), args := #[Operand.tmp 18], argTypes := #[9] }, type := 31, pos := "ref.go:46", after := #[{ on := 12, ground := Ground.data }, { on := 10, ground := Ground.chain }], guard := none } : Oper)) rfl (fun K hK => ?_) ?_
            · go_simp
              refine (N4.out _).mono ?_
              rintro e w' ⟨rfl, rfl⟩
              go_wp2_with fail
              refine hK.out _ _ ?_ (fun hHeld => ?_)
              · trivial
              clear hK K
              (try simp only [Act.put, List.setIfInBounds_toArray, List.set_cons_zero, List.set_cons_succ])
              refine wpAnyH_take (i := 14) (oi := ({ dst := some 20, op := Op.build 37 #[(0, Operand.tmp 9), (1, Operand.tmp 13), (2, Operand.tmp 16), (3, Operand.tmp 19)], type := 37, pos := "ref.go:46", after := #[{ on := 3, ground := Ground.data }, { on := 7, ground := Ground.data }, { on := 10, ground := Ground.data }, { on := 13, ground := Ground.data }], guard := none } : Oper)) (v := ?_) rfl (by kernel_rfl) (by kernel_rfl) (by kernel_rfl) (fun _ _ _ h => h) (Or.inl ⟨by rfl, ?_⟩) (by assumption) ?_
              rotate_left
              · (intro w hSw; (try dsimp only at hSw); go_simp) <;> with_reducible rfl
              (try simp only [Act.put, List.setIfInBounds_toArray, List.set_cons_zero, List.set_cons_succ])
              refine wpAnyH_ready (rs := [16]) (by kernel_rfl) (by simp) ?_
              refine AllReadyH.cons (o := ({ dst := none, op := Op.store 37 (Operand.tmp 4) (Operand.tmp 20), type := 0, pos := "ref.go:46", after := #[{ on := 15, ground := Ground.data }, { on := 14, ground := Ground.data }, { on := 13, ground := Ground.chain }, { on := 0, ground := Ground.phase }, { on := 1, ground := Ground.phase }, { on := 2, ground := Ground.phase }, { on := 3, ground := Ground.phase }, { on := 4, ground := Ground.phase }, { on := 5, ground := Ground.phase }, { on := 6, ground := Ground.phase }, { on := 7, ground := Ground.phase }, { on := 8, ground := Ground.phase }, { on := 9, ground := Ground.phase }, { on := 10, ground := Ground.phase }, { on := 11, ground := Ground.phase }, { on := 12, ground := Ground.phase }, { on := 13, ground := Ground.phase }, { on := 14, ground := Ground.phase }, { on := 15, ground := Ground.phase }], guard := none } : Oper)) rfl (fun K hK => ?_) ?_
              · go_simp
                refine hK.out _ _ ?_ (fun hHeld => ?_)
                · trivial
                clear hK K
                (try simp only [Act.put, List.setIfInBounds_toArray, List.set_cons_zero, List.set_cons_succ])
                refine wpAnyH_done (by kernel_rfl) ?_ _
                refine NoPanic.normal ?_
                go_wp2_with fail
                go_meet
                exact ⟨_, rfl, (Box4.new w1 37 _ _ _ _).below (Below.refl _ _).drew, (below_new _ _).drew, X1.out.1.lt⟩
              exact AllReadyH.nil
            exact AllReadyH.nil
          exact AllReadyH.nil
        exact AllReadyH.nil
      refine AllReadyH.cons (o := ({ dst := some 4, op := Op.alloc 37, type := 0, pos := "ref.go:46", after := #[], guard := none } : Oper)) rfl (fun K hK => ?_) ?_
      · go_simp
        refine hK.out _ _ ?_ (fun hHeld => ?_)
        · trivial
        clear hK K
        (try simp only [Act.put, List.setIfInBounds_toArray, List.set_cons_zero, List.set_cons_succ])
        refine wpAnyH_ready (rs := [6]) (by kernel_rfl) (by simp) ?_
        refine AllReadyH.cons (o := ({ dst := some 12, op := Op.call { callee := Callee.value (Operand.func 52), args := #[Operand.tmp 11], argTypes := #[9] }, type := 31, pos := "ref.go:46", after := #[{ on := 5, ground := Ground.data }, { on := 2, ground := Ground.chain }], guard := none } : Oper)) rfl (fun K hK => ?_) ?_
        · go_simp
          refine (N2.out _).mono ?_
          rintro e w' ⟨rfl, rfl⟩
          go_wp2_with fail
          refine hK.out _ _ ?_ (fun hHeld => ?_)
          · trivial
          clear hK K
          (try simp only [Act.put, List.setIfInBounds_toArray, List.set_cons_zero, List.set_cons_succ])
          refine wpAnyH_take (i := 7) (oi := ({ dst := some 13, op := Op.convert 31 3 (Operand.tmp 12), type := 3, pos := "ref.go:46", after := #[{ on := 6, ground := Ground.data }], guard := none } : Oper)) (v := ?_) rfl (by kernel_rfl) (by kernel_rfl) (by kernel_rfl) (fun _ _ _ h => h) (Or.inl ⟨by rfl, ?_⟩) (by assumption) ?_
          rotate_left
          · (intro w hSw; (try dsimp only at hSw); go_simp) <;> with_reducible rfl
          (try simp only [Act.put, List.setIfInBounds_toArray, List.set_cons_zero, List.set_cons_succ])
          refine wpAnyH_ready (rs := [10]) (by kernel_rfl) (by simp) ?_
          refine AllReadyH.cons (o := ({ dst := some 16, op := Op.call { callee := Callee.value (Operand.func 52), args := #[Operand.tmp 15], argTypes := #[9] }, type := 31, pos := "ref.go:46", after := #[{ on := 9, ground := Ground.data }, { on := 6, ground := Ground.chain }], guard := none } : Oper)) rfl (fun K hK => ?_) ?_
          · go_simp
            refine (N3.out _).mono ?_
            rintro e w' ⟨rfl, rfl⟩
            go_wp2_with fail
            refine hK.out _ _ ?_ (fun hHeld => ?_)
            · trivial
            clear hK K
            (try simp only [Act.put, List.setIfInBounds_toArray, List.set_cons_zero, List.set_cons_succ])
            refine wpAnyH_ready (rs := [13]) (by kernel_rfl) (by simp) ?_
            refine AllReadyH.cons (o := ({ dst := some 19, op := Op.call { callee := Callee.value (Operand.func 52), args := #[Operand.tmp 18], argTypes := #[9] }, type := 31, pos := "ref.go:46", after := #[{ on := 12, ground := Ground.data }, { on := 10, ground := Ground.chain }], guard := none } : Oper)) rfl (fun K hK => ?_) ?_
            · go_simp
              refine (N4.out _).mono ?_
              rintro e w' ⟨rfl, rfl⟩
              go_wp2_with fail
              refine hK.out _ _ ?_ (fun hHeld => ?_)
              · trivial
              clear hK K
              (try simp only [Act.put, List.setIfInBounds_toArray, List.set_cons_zero, List.set_cons_succ])
              refine wpAnyH_take (i := 14) (oi := ({ dst := some 20, op := Op.build 37 #[(0, Operand.tmp 9), (1, Operand.tmp 13), (2, Operand.tmp 16), (3, Operand.tmp 19)], type := 37, pos := "ref.go:46", after := #[{ on := 3, ground := Ground.data }, { on := 7, ground := Ground.data }, { on := 10, ground := Ground.data }, { on := 13, ground := Ground.data }], guard := none } : Oper)) (v := ?_) rfl (by kernel_rfl) (by kernel_rfl) (by kernel_rfl) (fun _ _ _ h => h) (Or.inl ⟨by rfl, ?_⟩) (by assumption) ?_
              rotate_left
              · (intro w hSw; (try dsimp only at hSw); go_simp) <;> with_reducible rfl
              (try simp only [Act.put, List.setIfInBounds_toArray, List.set_cons_zero, List.set_cons_succ])
              refine wpAnyH_ready (rs := [16]) (by kernel_rfl) (by simp) ?_
              refine AllReadyH.cons (o := ({ dst := none, op := Op.store 37 (Operand.tmp 4) (Operand.tmp 20), type := 0, pos := "ref.go:46", after := #[{ on := 15, ground := Ground.data }, { on := 14, ground := Ground.data }, { on := 13, ground := Ground.chain }, { on := 0, ground := Ground.phase }, { on := 1, ground := Ground.phase }, { on := 2, ground := Ground.phase }, { on := 3, ground := Ground.phase }, { on := 4, ground := Ground.phase }, { on := 5, ground := Ground.phase }, { on := 6, ground := Ground.phase }, { on := 7, ground := Ground.phase }, { on := 8, ground := Ground.phase }, { on := 9, ground := Ground.phase }, { on := 10, ground := Ground.phase }, { on := 11, ground := Ground.phase }, { on := 12, ground := Ground.phase }, { on := 13, ground := Ground.phase }, { on := 14, ground := Ground.phase }, { on := 15, ground := Ground.phase }], guard := none } : Oper)) rfl (fun K hK => ?_) ?_
              · go_simp
                refine hK.out _ _ ?_ (fun hHeld => ?_)
                · trivial
                clear hK K
                (try simp only [Act.put, List.setIfInBounds_toArray, List.set_cons_zero, List.set_cons_succ])
                refine wpAnyH_done (by kernel_rfl) ?_ _
                refine NoPanic.normal ?_
                go_wp2_with fail
                go_meet
                exact ⟨_, rfl, (Box4.new w1 37 _ _ _ _).below (Below.refl _ _).drew, (below_new _ _).drew, X1.out.1.lt⟩
              exact AllReadyH.nil
            exact AllReadyH.nil
          exact AllReadyH.nil
        exact AllReadyH.nil
      exact AllReadyH.nil
    refine AllReadyH.cons (o := ({ dst := some 4, op := Op.alloc 37, type := 0, pos := "ref.go:46", after := #[], guard := none } : Oper)) rfl (fun K hK => ?_) ?_
    · go_simp
      refine hK.out _ _ ?_ (fun hHeld => ?_)
      · trivial
      clear hK K
      (try simp only [Act.put, List.setIfInBounds_toArray, List.set_cons_zero, List.set_cons_succ])
      refine wpAnyH_ready (rs := [2]) (by kernel_rfl) (by simp) ?_
      refine AllReadyH.cons (o := ({ dst := some 8, op := Op.call { callee := Callee.value (Operand.func 52), args := #[Operand.tmp 7], argTypes := #[9] }, type := 31, pos := "ref.go:46", after := #[{ on := 1, ground := Ground.data }], guard := none } : Oper)) rfl (fun K hK => ?_) ?_
      · go_simp
        refine (N1.out _).mono ?_
        rintro e w' ⟨rfl, rfl⟩
        go_wp2_with fail
        refine hK.out _ _ ?_ (fun hHeld => ?_)
        · trivial
        clear hK K
        (try simp only [Act.put, List.setIfInBounds_toArray, List.set_cons_zero, List.set_cons_succ])
        refine wpAnyH_take (i := 3) (oi := ({ dst := some 9, op := Op.convert 31 3 (Operand.tmp 8), type := 3, pos := "ref.go:46", after := #[{ on := 2, ground := Ground.data }], guard := none } : Oper)) (v := ?_) rfl (by kernel_rfl) (by kernel_rfl) (by kernel_rfl) (fun _ _ _ h => h) (Or.inl ⟨by rfl, ?_⟩) (by assumption) ?_
        rotate_left
        · (intro w hSw; (try dsimp only at hSw); go_simp) <;> with_reducible rfl
        (try simp only [Act.put, List.setIfInBounds_toArray, List.set_cons_zero, List.set_cons_succ])
        refine wpAnyH_ready (rs := [6]) (by kernel_rfl) (by simp) ?_
        refine AllReadyH.cons (o := ({ dst := some 12, op := Op.call { callee := Callee.value (Operand.func 52), args := #[Operand.tmp 11], argTypes := #[9] }, type := 31, pos := "ref.go:46", after := #[{ on := 5, ground := Ground.data }, { on := 2, ground := Ground.chain }], guard := none } : Oper)) rfl (fun K hK => ?_) ?_
        · go_simp
          refine (N2.out _).mono ?_
          rintro e w' ⟨rfl, rfl⟩
          go_wp2_with fail
          refine hK.out _ _ ?_ (fun hHeld => ?_)
          · trivial
          clear hK K
          (try simp only [Act.put, List.setIfInBounds_toArray, List.set_cons_zero, List.set_cons_succ])
          refine wpAnyH_take (i := 7) (oi := ({ dst := some 13, op := Op.convert 31 3 (Operand.tmp 12), type := 3, pos := "ref.go:46", after := #[{ on := 6, ground := Ground.data }], guard := none } : Oper)) (v := ?_) rfl (by kernel_rfl) (by kernel_rfl) (by kernel_rfl) (fun _ _ _ h => h) (Or.inl ⟨by rfl, ?_⟩) (by assumption) ?_
          rotate_left
          · (intro w hSw; (try dsimp only at hSw); go_simp) <;> with_reducible rfl
          (try simp only [Act.put, List.setIfInBounds_toArray, List.set_cons_zero, List.set_cons_succ])
          refine wpAnyH_ready (rs := [10]) (by kernel_rfl) (by simp) ?_
          refine AllReadyH.cons (o := ({ dst := some 16, op := Op.call { callee := Callee.value (Operand.func 52), args := #[Operand.tmp 15], argTypes := #[9] }, type := 31, pos := "ref.go:46", after := #[{ on := 9, ground := Ground.data }, { on := 6, ground := Ground.chain }], guard := none } : Oper)) rfl (fun K hK => ?_) ?_
          · go_simp
            refine (N3.out _).mono ?_
            rintro e w' ⟨rfl, rfl⟩
            go_wp2_with fail
            refine hK.out _ _ ?_ (fun hHeld => ?_)
            · trivial
            clear hK K
            (try simp only [Act.put, List.setIfInBounds_toArray, List.set_cons_zero, List.set_cons_succ])
            refine wpAnyH_ready (rs := [13]) (by kernel_rfl) (by simp) ?_
            refine AllReadyH.cons (o := ({ dst := some 19, op := Op.call { callee := Callee.value (Operand.func 52), args := #[Operand.tmp 18], argTypes := #[9] }, type := 31, pos := "ref.go:46", after := #[{ on := 12, ground := Ground.data }, { on := 10, ground := Ground.chain }], guard := none } : Oper)) rfl (fun K hK => ?_) ?_
            · go_simp
              refine (N4.out _).mono ?_
              rintro e w' ⟨rfl, rfl⟩
              go_wp2_with fail
              refine hK.out _ _ ?_ (fun hHeld => ?_)
              · trivial
              clear hK K
              (try simp only [Act.put, List.setIfInBounds_toArray, List.set_cons_zero, List.set_cons_succ])
              refine wpAnyH_take (i := 14) (oi := ({ dst := some 20, op := Op.build 37 #[(0, Operand.tmp 9), (1, Operand.tmp 13), (2, Operand.tmp 16), (3, Operand.tmp 19)], type := 37, pos := "ref.go:46", after := #[{ on := 3, ground := Ground.data }, { on := 7, ground := Ground.data }, { on := 10, ground := Ground.data }, { on := 13, ground := Ground.data }], guard := none } : Oper)) (v := ?_) rfl (by kernel_rfl) (by kernel_rfl) (by kernel_rfl) (fun _ _ _ h => h) (Or.inl ⟨by rfl, ?_⟩) (by assumption) ?_
              rotate_left
              · (intro w hSw; (try dsimp only at hSw); go_simp) <;> with_reducible rfl
              (try simp only [Act.put, List.setIfInBounds_toArray, List.set_cons_zero, List.set_cons_succ])
              refine wpAnyH_ready (rs := [16]) (by kernel_rfl) (by simp) ?_
              refine AllReadyH.cons (o := ({ dst := none, op := Op.store 37 (Operand.tmp 4) (Operand.tmp 20), type := 0, pos := "ref.go:46", after := #[{ on := 15, ground := Ground.data }, { on := 14, ground := Ground.data }, { on := 13, ground := Ground.chain }, { on := 0, ground := Ground.phase }, { on := 1, ground := Ground.phase }, { on := 2, ground := Ground.phase }, { on := 3, ground := Ground.phase }, { on := 4, ground := Ground.phase }, { on := 5, ground := Ground.phase }, { on := 6, ground := Ground.phase }, { on := 7, ground := Ground.phase }, { on := 8, ground := Ground.phase }, { on := 9, ground := Ground.phase }, { on := 10, ground := Ground.phase }, { on := 11, ground := Ground.phase }, { on := 12, ground := Ground.phase }, { on := 13, ground := Ground.phase }, { on := 14, ground := Ground.phase }, { on := 15, ground := Ground.phase }], guard := none } : Oper)) rfl (fun K hK => ?_) ?_
              · go_simp
                refine hK.out _ _ ?_ (fun hHeld => ?_)
                · trivial
                clear hK K
                (try simp only [Act.put, List.setIfInBounds_toArray, List.set_cons_zero, List.set_cons_succ])
                refine wpAnyH_done (by kernel_rfl) ?_ _
                refine NoPanic.normal ?_
                go_wp2_with fail
                go_meet
                exact ⟨_, rfl, (Box4.new w1 37 _ _ _ _).below (Below.refl _ _).drew, (below_new _ _).drew, X1.out.1.lt⟩
              exact AllReadyH.nil
            exact AllReadyH.nil
          exact AllReadyH.nil
        exact AllReadyH.nil
      exact AllReadyH.nil
    exact AllReadyH.nil
  case rest =>
    obtain ⟨g4, rfl, x4, b4, hlt⟩ := hcut
    have H4 := Lib.hid (And.intro x4 (And.intro b4 (X1.out.1.below b4)))
    have a0 := x4.c0
    have a1 := x4.c1
    have a2 := x4.c2
    have a3 := x4.c3
    clear x4 b4 s1 s2 s3 s4 N1 N2 N3 N4 l12 l16 l24 l32
    go_wp2_with fail
    refine (rright8_any x y o n _).mono ?_
    rintro e w5 ⟨rfl, b5⟩
    rw [← HR.out.1]
    have x5 := H4.out.2.2.below b5
    have y5 := H4.out.1.below b5
    have H5 := Lib.hid (And.intro x5 (below_call (below_call X1.out.2.1 H4.out.2.1) b5))
    clear a0 a1 a2 a3
    have a0 := x5.c0
    have a1 := x5.c1
    have a2 := x5.c2
    have a3 := x5.c3
    have fz := x5.fz
    have f0 := y5.c0
    have f1 := y5.c1
    have f2 := y5.c2
    have f3 := y5.c3
    clear x5 y5 b5 H4
    by_cases hm : S0 = [115, 116, 101, 97, 100, 105, 110, 103]
    · have eB : B = true := by rw [HR.out.2]; exact decide_eq_true hm
      subst eB
      subst hm
      cases R with
      | true =>
        go_wp2_with fail
        have ts := H5.out.1.set (.int .i64 x) (.int .i64 y) (.int .u64 (o : Int)) (.int .u64 (n : Int))
        refine bodyPost_ret (v := .tuple #[hv x y o n, .bool true]) ?_ rfl ?_
        · simp [results, go_sem, ts.c0, ts.c1, ts.c2, ts.c3]
        · exact ⟨rfl, below_set4 H5.out.2 (by have := X1.out.2.2; omega) _ _ _ _⟩
      | false =>
        go_wp2_with fail
        have ts := H5.out.1.set (.int .i64 0) (.int .i64 0) (.int .u64 0) (.int .u64 0)
        refine bodyPost_ret (v := .tuple #[hv 0 0 0 0, .bool false]) ?_ rfl ?_
        · simp [results, go_sem, ts.c0, ts.c1, ts.c2, ts.c3]
        · exact ⟨rfl, below_set4 H5.out.2 (by have := X1.out.2.2; omega) _ _ _ _⟩
    · have eB : B = false := by rw [HR.out.2]; exact decide_eq_false hm
      subst eB
      have hn1 : (S0 == [115, 116, 101, 97, 100, 105, 110, 103]) = false := by simpa using hm
      go_wp2_with fail
      have ts := H5.out.1.set (.int .i64 0) (.int .i64 0) (.int .u64 0) (.int .u64 0)
      refine bodyPost_ret (v := .tuple #[hv 0 0 0 0, .bool false]) ?_ rfl ?_
      · simp [results, go_sem, ts.c0, ts.c1, ts.c2, ts.c3]
      · exact ⟨rfl, below_set4 H5.out.2 (by have := X1.out.2.2; omega) _ _ _ _⟩
theorem rof8_any (b : List UInt8) (hb : b.length = 32) (w : World) :
    Calls Try.prog 33 #[.string ⟨b.toArray⟩] w fun e w' => e = .returned (.tuple #[hV b, .bool (M.isH b)]) ∧ Below w.heap.size w w' := by
  have h := rof8_go b _ _ _ _ _ hb rfl rfl rfl rfl rfl _ _ (M.hP b) (M.hK b) (M.hO b) (M.hN b) rfl rfl rfl rfl rfl rfl w
  exact h
end Go.Proofs.Ytacognejefeboaa
