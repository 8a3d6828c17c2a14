/-
  The document's answers for layer 8: the small functions.
-/
import Derived.Test.YtmboibipabkhaaaGreatKxK0
import Derived.Test.YtmboibipabkhaaaGreatKxK8
import Derived.Test.YtmboibipabkhaaaGreatKxR2
import Derived.Deep.RegionHeld3
namespace Go.Proofs.YtmboibipabkhaaaGreat
open Go.ChangeShapes Go.WideShapes Go.ChangeAt Go.RowKit
set_option linter.unusedVariables false
set_option maxRecDepth 20000
structure Box3 (w : World) (g : Nat) (v0 v1 v2 : Value) : Prop where
 c0 : w.cell? ⟨g, 0, none⟩ = some v0
 c1 : w.cell? ⟨g, 1, none⟩ = some v1
 c2 : w.cell? ⟨g, 2, none⟩ = some v2
 fz : ∀ j, w.frozen? ⟨g, j, none⟩ = false
section
variable {w w' : World} {g : Nat} {v0 v1 v2 : Value} {O : Nat → Prop}
theorem Box3.new (w : World) (ty : TypeId) (v0 v1 v2 : Value) : Box3 (w.alloc (.cells #[v0, v1, v2] ty)) w.heap.size v0 v1 v2 :=
 ⟨by rw [World.cell?_alloc_mark]; rfl, by rw [World.cell?_alloc_mark]; rfl, by rw [World.cell?_alloc_mark]; rfl, fun j => by rw [World.frozen?_alloc_mark]; simp⟩
theorem Box3.lt (h : Box3 w g v0 v1 v2) : g < w.heap.size := lt_of_cell h.c0
theorem Box3.below (h : Box3 w g v0 v1 v2) (hb : Below w.heap.size w w') : Box3 w' g v0 v1 v2 :=
 ⟨(hb.cell (lt_of_cell h.c0)).trans h.c0, (hb.cell (lt_of_cell h.c1)).trans h.c1, (hb.cell (lt_of_cell h.c2)).trans h.c2, fun j => (World.frozen?_of_block (hb.block g h.lt)).trans (h.fz j)⟩
theorem Box3.kept (h : Box3 w g v0 v1 v2) (k : Kept w w' O) (n : ¬ O g) : Box3 w' g v0 v1 v2 :=
 ⟨k.cell_some h.c0 n, k.cell_some h.c1 n, k.cell_some h.c2 n, fun j => (k.frozen (p := ⟨g, j, none⟩) h.lt n).trans (h.fz j)⟩
theorem Box3.set (h : Box3 w g v0 v1 v2) (u0 u1 u2 : Value) : Box3 (((w.setCell ⟨g, 0, none⟩ u0).setCell ⟨g, 1, none⟩ u1).setCell ⟨g, 2, none⟩ u2) g u0 u1 u2 := by
 refine ⟨?_, ?_, ?_, fun j => by rw [World.frozen?_setCell, World.frozen?_setCell, World.frozen?_setCell]; exact h.fz j⟩
 ·rw [World.cell?_setCell_other _ _ _ _ (by simp), World.cell?_setCell_other _ _ _ _ (by simp)]
  exact World.cell?_setCell_same _ _ _ h.c0
 ·rw [World.cell?_setCell_other _ _ _ _ (by simp)]
  refine World.cell?_setCell_same _ _ _ (show World.cell? _ _ = some v1 from ?_)
  rw [World.cell?_setCell_other _ _ _ _ (by simp)]
  exact h.c1
 ·refine World.cell?_setCell_same _ _ _ (show World.cell? _ _ = some v2 from ?_)
  rw [World.cell?_setCell_other _ _ _ _ (by simp), World.cell?_setCell_other _ _ _ _ (by simp)]
  exact h.c2
theorem below_set3 {B : Nat} {a : World} (h : Below B a w) (hg : B ≤ g) (u0 u1 u2 : Value) : Below B a (((w.setCell ⟨g, 0, none⟩ u0).setCell ⟨g, 1, none⟩ u1).setCell ⟨g, 2, none⟩ u2) :=
 ((h.setCell (p := ⟨g, 0, none⟩) hg u0).setCell (p := ⟨g, 1, none⟩) hg u1).setCell (p := ⟨g, 2, none⟩) hg u2
theorem kept_set3 (w : World) (g : Nat) (u0 u1 u2 : Value) : Kept w (((w.setCell ⟨g, 0, none⟩ u0).setCell ⟨g, 1, none⟩ u1).setCell ⟨g, 2, none⟩ u2) (fun b => b = g) :=
 (((Kept.refl w (fun b => b = g)).setCell (p := ⟨g, 0, none⟩) (fun _ => rfl) u0).setCell (p := ⟨g, 1, none⟩) (fun _ => rfl) u1).setCell (p := ⟨g, 2, none⟩) (fun _ => rfl) u2
end
theorem rright8_any (p k o n : Int) (w : World) :
  Calls Tryz.prog 53 #[hv p k o n] w fun e w' => e = .returned (.bool (M.right p k)) ∧ Below w.heap.size w w' := by
 have HB := Lib.hid ((Below.refl w.heap.size w).alloc (Nat.le_refl _) (.cells #[.int .i64 p, .int .i64 k, .int .u64 o, .int .u64 n] 82))
 by_cases h1 : 0 < p
 ·skip
  by_cases h2 : p ≤ 1048576
  ·skip
   by_cases h3 : 0 ≤ k
   ·skip
    by_cases h4 : k ≤ 255
    ·skip
     have HR := Lib.hid (show M.right p k = true by rw [M.right_iff]; omega)
     have e1 : decide (0 < p) = true := by simpa using h1
     have e2 : decide (p ≤ 1048576) = true := by simpa using h2
     have e3 : decide (0 ≤ k) = true := by simpa using h3
     have e4 : decide (k ≤ 255) = true := by simpa using h4
     clear h1 h2 h3 h4
     go_enter Tryz.func53, Tryz.ntmps53
     go_wp2
     go_ret
     exact ⟨by rw [HR.out]; rfl, HB.out⟩
    ·skip
     have HR := Lib.hid (show M.right p k = false by rw [M.right_not]; omega)
     have e1 : decide (0 < p) = true := by simpa using h1
     have e2 : decide (p ≤ 1048576) = true := by simpa using h2
     have e3 : decide (0 ≤ k) = true := by simpa using h3
     have e4 : decide (k ≤ 255) = false := by simpa using h4
     clear h1 h2 h3 h4
     go_enter Tryz.func53, Tryz.ntmps53
     go_wp2
     go_ret
     exact ⟨by rw [HR.out]; rfl, HB.out⟩
   ·skip
    have HR := Lib.hid (show M.right p k = false by rw [M.right_not]; omega)
    have e1 : decide (0 < p) = true := by simpa using h1
    have e2 : decide (p ≤ 1048576) = true := by simpa using h2
    have e3 : decide (0 ≤ k) = false := by simpa using h3
    clear h1 h2 h3
    go_enter Tryz.func53, Tryz.ntmps53
    go_wp2
    go_ret
    exact ⟨by rw [HR.out]; rfl, HB.out⟩
  ·skip
   have HR := Lib.hid (show M.right p k = false by rw [M.right_not]; omega)
   have e1 : decide (0 < p) = true := by simpa using h1
   have e2 : decide (p ≤ 1048576) = false := by simpa using h2
   clear h1 h2
   go_enter Tryz.func53, Tryz.ntmps53
   go_wp2
   go_ret
   exact ⟨by rw [HR.out]; rfl, HB.out⟩
 ·skip
  have HR := Lib.hid (show M.right p k = false by rw [M.right_not]; omega)
  have e1 : decide (0 < p) = false := by simpa using h1
  clear h1
  go_enter Tryz.func53, Tryz.ntmps53
  go_wp2
  go_ret
  exact ⟨by rw [HR.out]; rfl, HB.out⟩
theorem rin8_any (w : World) (P : Nat) (A : Option Addr) (n c T : Nat) (x : Int) :
  Calls Tryz.prog 54 #[refV P A n c T, .int .i64 x] w fun e w' => e = .returned (.bool (pin P x)) ∧ Below w.heap.size w w' := by
 have HB := Lib.hid ((Below.refl w.heap.size w).alloc (Nat.le_refl _) (.cells #[.int .i64 (P : Int), .slice A n c, .int .i64 (T : Int)] 28))
 by_cases h0 : 0 ≤ x
 ·have e0 : decide (0 ≤ x) = true := by simpa using h0
  by_cases h1 : x < (P : Int)
  ·have e1 : decide (x < (P : Int)) = true := by simpa using h1
   have HR := Lib.hid (show pin P x = true by unfold pin; rw [e0, e1]; rfl)
   clear h0 h1
   go_enter Tryz.func54, Tryz.ntmps54
   go_wp2
   go_ret
   exact ⟨by rw [HR.out]; rfl, HB.out⟩
  ·have e1 : decide (x < (P : Int)) = false := by simpa using h1
   have HR := Lib.hid (show pin P x = false by unfold pin; rw [e0, e1]; rfl)
   clear h0 h1
   go_enter Tryz.func54, Tryz.ntmps54
   go_wp2
   go_ret
   exact ⟨by rw [HR.out]; rfl, HB.out⟩
 ·have e0 : decide (0 ≤ x) = false := by simpa using h0
  have HR := Lib.hid (show pin P x = false by unfold pin; rw [e0]; rfl)
  clear h0
  go_enter Tryz.func54, Tryz.ntmps54
  go_wp2
  go_ret
  exact ⟨by rw [HR.out]; rfl, HB.out⟩
theorem str_app (a b : List UInt8) : ({ data := a.toArray } ++ { data := b.toArray } : ByteArray) = { data := (a ++ b).toArray } := ByteArray.mk_append_mk a b
theorem str5 (a b c d e : List UInt8) : (((({ data := a.toArray } ++ { data := b.toArray }) ++ { data := c.toArray }) ++ { data := d.toArray }) ++ { data := e.toArray } : ByteArray) = { data := (a ++ (b ++ (c ++ (d ++ e)))).toArray } := by
 rw [str_app, str_app, str_app, str_app]
 simp only [List.append_assoc]
theorem retA {a b : ByteArray} (h : a = b) : Ending.returned (.string a) = .returned (.string b) := by rw [h]
set_option maxHeartbeats 8000000 in
theorem rbytes8_int (x y : Int) (p k o n : Nat) (ex : x = p) (ey : y = k) (hp : p < 4294967296) (hk : k < 4294967296) (ho : o < 18446744073709551616) (hn : n < 18446744073709551616) (w : World) :
  Calls Tryz.prog 56 #[hv x y o n] w fun e w' => e = .returned (.string ⟨(M.hd p k o n).toArray⟩) ∧ Below w.heap.size w w' := by
 have hwx : IntKind.u64.wrap x = x := by rw [wrapU]; omega
 have hwy : IntKind.u64.wrap y = y := by rw [wrapU]; omega
 have O1 := Lib.hid (fun W => rOne_any 4 p (by omega) (by omega) W)
 have O2 := Lib.hid (fun W => rOne_any 4 k (by omega) (by omega) W)
 have O3 := Lib.hid (fun W => rOne_any 8 o (by omega) ho W)
 have O4 := Lib.hid (fun W => rOne_any 8 n (by omega) hn W)
 rw [← ex] at O1
 rw [← ey] at O2
 have e1 : (M.enc 4 p).length ≤ 8 := by rw [M.enc_length]; omega
 have e2 : (M.enc 4 k).length ≤ 8 := by rw [M.enc_length]; omega
 have e3 : (M.enc 8 o).length ≤ 8 := by rw [M.enc_length]; omega
 have e4 : (M.enc 8 n).length ≤ 8 := by rw [M.enc_length]; omega
 have HD := Lib.hid (show M.hd p k o n = [115, 116, 101, 97, 100, 105, 110, 103] ++ (M.enc 4 p ++ (M.enc 4 k ++ (M.enc 8 o ++ M.enc 8 n))) from rfl)
 generalize M.enc 4 p = E1 at *
 generalize M.enc 4 k = E2 at *
 generalize M.enc 8 o = E3 at *
 generalize M.enc 8 n = E4 at *
 have h1 : ¬ (9223372036854775807 < 8 + E1.length) := by omega
 have h2 : ¬ (9223372036854775807 < 8 + E1.length + E2.length) := by omega
 have h3 : ¬ (9223372036854775807 < 8 + E1.length + E2.length + E3.length) := by omega
 have h4 : ¬ (9223372036854775807 < 8 + E1.length + E2.length + E3.length + E4.length) := by omega
 clear ex ey hp hk ho hn
 have x1 := Box4.new w 82 (.int .i64 x) (.int .i64 y) (.int .u64 (o : Int)) (.int .u64 (n : Int))
 have b1 := below_new w (.cells #[.int .i64 x, .int .i64 y, .int .u64 (o : Int), .int .u64 (n : Int)] 82)
 go_enter Tryz.func56, Tryz.ntmps56
 go_wp2_with fail
 generalize w.alloc (.cells #[.int .i64 x, .int .i64 y, .int .u64 (o : Int), .int .u64 (n : Int)] 82) = w1 at *
 obtain ⟨b0, hb0⟩ : ∃ b0, b0 = w.heap.size := ⟨_, rfl⟩
 rw [← hb0] at x1 ⊢
 have BB := Lib.hid b1
 have HC := Lib.hid (show ∀ W, Below w1.heap.size w1 W → W.cell? ⟨b0, 0, none⟩ = some (.int .i64 x) ∧ W.cell? ⟨b0, 1, none⟩ = some (.int .i64 y) ∧ W.cell? ⟨b0, 2, none⟩ = some (.int .u64 (o : Int)) ∧ W.cell? ⟨b0, 3, none⟩ = some (.int .u64 (n : Int)) from
  fun W hW => ⟨(x1.below hW).c0, (x1.below hW).c1, (x1.below hW).c2, (x1.below hW).c3⟩)
 have B0 := Lib.hid ((Below.refl w1.heap.size w1).drew)
 clear x1 b1 hb0
 refine wp_region_noPanic ?_
 refine wp_region_held_drew (S := fun W => W.cell? ⟨b0, 0, none⟩ = some (.int .i64 x) ∧ W.cell? ⟨b0, 1, none⟩ = some (.int .i64 y) ∧ W.cell? ⟨b0, 2, none⟩ = some (.int .u64 (o : Int)) ∧ W.cell? ⟨b0, 3, none⟩ = some (.int .u64 (n : Int))) (by kernel_rfl) (HC.out _ B0.out) (fun hHeld => ?_)
 refine tkA 0 (some 3) (Op.fieldAddr 82 (Operand.tmp 1) 0) 0 (v := ?_) rfl (by kernel_rfl) ?_ ‹_› ?_
 rotate_left
 ·(intro w h; (try dsimp only at h); go_simp) <;> with_reducible rfl
 (try simp only [Act.put, yI, yZ, yS])
 refine tkA 1 (some 4) (Op.load 3 (Operand.tmp 3)) 3 (v := ?_) rfl (by kernel_rfl) ?_ ‹_› ?_
 rotate_left
 ·(intro w h; (try dsimp only at h); go_simp) <;> with_reducible rfl
 (try simp only [Act.put, yI, yZ, yS])
 refine tkA 2 (some 5) (Op.convert 3 37 (Operand.tmp 4)) 37 (v := ?_) rfl (by kernel_rfl) ?_ ‹_› ?_
 rotate_left
 ·(intro w h; (try dsimp only at h); go_simp) <;> with_reducible rfl
 (try simp only [Act.put, yI, yZ, yS])
 refine tkA 5 (some 8) (Op.fieldAddr 82 (Operand.tmp 1) 1) 0 (v := ?_) rfl (by kernel_rfl) ?_ ‹_› ?_
 rotate_left
 ·(intro w h; (try dsimp only at h); go_simp) <;> with_reducible rfl
 (try simp only [Act.put, yI, yZ, yS])
 refine tkA 6 (some 9) (Op.load 3 (Operand.tmp 8)) 3 (v := ?_) rfl (by kernel_rfl) ?_ ‹_› ?_
 rotate_left
 ·(intro w h; (try dsimp only at h); go_simp) <;> with_reducible rfl
 (try simp only [Act.put, yI, yZ, yS])
 refine tkA 7 (some 10) (Op.convert 3 37 (Operand.tmp 9)) 37 (v := ?_) rfl (by kernel_rfl) ?_ ‹_› ?_
 rotate_left
 ·(intro w h; (try dsimp only at h); go_simp) <;> with_reducible rfl
 (try simp only [Act.put, yI, yZ, yS])
 refine tkA 10 (some 13) (Op.fieldAddr 82 (Operand.tmp 1) 2) 0 (v := ?_) rfl (by kernel_rfl) ?_ ‹_› ?_
 rotate_left
 ·(intro w h; (try dsimp only at h); go_simp) <;> with_reducible rfl
 (try simp only [Act.put, yI, yZ, yS])
 refine tkA 11 (some 14) (Op.load 37 (Operand.tmp 13)) 37 (v := ?_) rfl (by kernel_rfl) ?_ ‹_› ?_
 rotate_left
 ·(intro w h; (try dsimp only at h); go_simp) <;> with_reducible rfl
 (try simp only [Act.put, yI, yZ, yS])
 refine tkA 14 (some 17) (Op.fieldAddr 82 (Operand.tmp 1) 3) 0 (v := ?_) rfl (by kernel_rfl) ?_ ‹_› ?_
 rotate_left
 ·(intro w h; (try dsimp only at h); go_simp) <;> with_reducible rfl
 (try simp only [Act.put, yI, yZ, yS])
 refine tkA 15 (some 18) (Op.load 37 (Operand.tmp 17)) 37 (v := ?_) rfl (by kernel_rfl) ?_ ‹_› ?_
 rotate_left
 ·(intro w h; (try dsimp only at h); go_simp) <;> with_reducible rfl
 (try simp only [Act.put, yI, yZ, yS])
 refine rdA (rs := [3]) (by kernel_rfl) ?_ rfl
 refine rcA (some 6) (Op.call { callee := Callee.value (Operand.func 85), args := #[Operand.const (Value.int IntKind.i64 4), Operand.tmp 5], argTypes := #[3, 37] }) 9 rfl (by kernel_rfl) (fun K hK => ?_) AllReadyH.nil
 go_simp
 refine (O1.out _).mono ?_
 rintro e y1 ⟨rfl, d1⟩
 have B1 := Lib.hid (below_call B0.out d1)
 clear d1
 go_wp2_with fail
 refine hK.out _ _ ?_ (fun hHeld => ?_)
 ·exact HC.out _ B1.out
 clear hK K
 (try simp only [Act.put, yI, yZ, yS])
 refine tkA 4 (some 7) (Op.binOp BinOp.add 9 (Operand.const (Value.string { data := #[115, 116, 101, 97, 100, 105, 110, 103] })) (Operand.tmp 6) 9) 9 (v := ?_) rfl (by kernel_rfl) ?_ ‹_› ?_
 rotate_left
 ·(intro w h; (try dsimp only at h); go_simp) <;> with_reducible rfl
 (try simp only [Act.put, yI, yZ, yS])
 refine rdA (rs := [8]) (by kernel_rfl) ?_ rfl
 refine rcA (some 11) (Op.call { callee := Callee.value (Operand.func 85), args := #[Operand.const (Value.int IntKind.i64 4), Operand.tmp 10], argTypes := #[3, 37] }) 9 rfl (by kernel_rfl) (fun K hK => ?_) AllReadyH.nil
 go_simp
 refine (O2.out _).mono ?_
 rintro e y2 ⟨rfl, d2⟩
 have B2 := Lib.hid (below_call B1.out d2)
 clear d2
 go_wp2_with fail
 refine hK.out _ _ ?_ (fun hHeld => ?_)
 ·exact HC.out _ B2.out
 clear hK K
 (try simp only [Act.put, yI, yZ, yS])
 refine tkA 9 (some 12) (Op.binOp BinOp.add 9 (Operand.tmp 7) (Operand.tmp 11) 9) 9 (v := ?_) rfl (by kernel_rfl) ?_ ‹_› ?_
 rotate_left
 ·(intro w h; (try dsimp only at h); go_simp) <;> with_reducible rfl
 (try simp only [Act.put, yI, yZ, yS])
 refine rdA (rs := [12]) (by kernel_rfl) ?_ rfl
 refine rcA (some 15) (Op.call { callee := Callee.value (Operand.func 85), args := #[Operand.const (Value.int IntKind.i64 8), Operand.tmp 14], argTypes := #[3, 37] }) 9 rfl (by kernel_rfl) (fun K hK => ?_) AllReadyH.nil
 go_simp
 refine (O3.out _).mono ?_
 rintro e y3 ⟨rfl, d3⟩
 have B3 := Lib.hid (below_call B2.out d3)
 clear d3
 go_wp2_with fail
 refine hK.out _ _ ?_ (fun hHeld => ?_)
 ·exact HC.out _ B3.out
 clear hK K
 (try simp only [Act.put, yI, yZ, yS])
 refine tkA 13 (some 16) (Op.binOp BinOp.add 9 (Operand.tmp 12) (Operand.tmp 15) 9) 9 (v := ?_) rfl (by kernel_rfl) ?_ ‹_› ?_
 rotate_left
 ·(intro w h; (try dsimp only at h); go_simp) <;> with_reducible rfl
 (try simp only [Act.put, yI, yZ, yS])
 refine rdA (rs := [16]) (by kernel_rfl) ?_ rfl
 refine rcA (some 19) (Op.call { callee := Callee.value (Operand.func 85), args := #[Operand.const (Value.int IntKind.i64 8), Operand.tmp 18], argTypes := #[3, 37] }) 9 rfl (by kernel_rfl) (fun K hK => ?_) AllReadyH.nil
 go_simp
 refine (O4.out _).mono ?_
 rintro e y4 ⟨rfl, d4⟩
 have B4 := Lib.hid (below_call B3.out d4)
 clear d4
 go_wp2_with fail
 refine hK.out _ _ ?_ (fun hHeld => ?_)
 ·exact HC.out _ B4.out
 clear hK K
 (try simp only [Act.put, yI, yZ, yS])
 refine tkA 17 (some 20) (Op.binOp BinOp.add 9 (Operand.tmp 16) (Operand.tmp 19) 9) 9 (v := ?_) rfl (by kernel_rfl) ?_ ‹_› ?_
 rotate_left
 ·(intro w h; (try dsimp only at h); go_simp) <;> with_reducible rfl
 (try simp only [Act.put, yI, yZ, yS])
 refine tkA 18 (some 2) (Op.assign (Operand.tmp 20)) 9 (v := ?_) rfl (by kernel_rfl) ?_ ‹_› ?_
 rotate_left
 ·(intro w h; (try dsimp only at h); go_simp) <;> with_reducible rfl
 (try simp only [Act.put, yI, yZ, yS])
 refine wpAnyH_done (by kernel_rfl) ?_ _
 refine NoPanic.normal ?_
 go_wp2_with fail
 go_ret
 refine ⟨?_, below_call BB.out B4.out⟩
 rw [HD.out]
 exact retA (str5 [115, 116, 101, 97, 100, 105, 110, 103] E1 E2 E3 E4)
set_option maxHeartbeats 8000000 in
theorem rof8_go (b S0 S1 S2 S3 S4 : List UInt8) (hb : b.length = 32) (e0 : S0 = b.take 8) (e1 : S1 = M.seg b 8 4) (e2 : S2 = M.seg b 12 4) (e3 : S3 = M.seg b 16 8) (e4 : S4 = M.seg b 24 8) (B R : Bool) (p k o n : Nat)
  (hp : p = M.num S1) (hk : k = M.num S2) (ho : o = M.num S3) (hn : n = M.num S4) (hB : B = decide (S0 = [115, 116, 101, 97, 100, 105, 110, 103])) (hR : R = M.right (p : Nat) (k : Nat)) (w : World) :
  Calls Tryz.prog 66 #[.string ⟨b.toArray⟩] w fun e w' => e = .returned (.tuple #[if (B && R) = true then hv p k o n else hv 0 0 0 0, .bool (B && R)]) ∧ Below w.heap.size w w' := by
 have hp4 : p < 4294967296 := by have := M.num_seg_lt b 8 4 (by omega); rw [hp, e1]; simpa using this
 have hk4 : k < 4294967296 := by have := M.num_seg_lt b 12 4 (by omega); rw [hk, e2]; simpa using this
 have l8 : (8 : Int) ≤ (b.length : Int) := by omega
 have l12 : (12 : Int) ≤ (b.length : Int) := by omega
 have l16 : (16 : Int) ≤ (b.length : Int) := by omega
 have l24 : (24 : Int) ≤ (b.length : Int) := by omega
 have l32 : (32 : Int) ≤ (b.length : Int) := by omega
 have s0 : (ByteArray.mk b.toArray).extract 0 8 = ByteArray.mk S0.toArray := by rw [e0]; exact extract_seg b 0 8
 have s1 : (ByteArray.mk b.toArray).extract 8 12 = ByteArray.mk S1.toArray := by rw [e1]; exact extract_seg b 8 4
 have s2 : (ByteArray.mk b.toArray).extract 12 16 = ByteArray.mk S2.toArray := by rw [e2]; exact extract_seg b 12 4
 have s3 : (ByteArray.mk b.toArray).extract 16 24 = ByteArray.mk S3.toArray := by rw [e3]; exact extract_seg b 16 8
 have s4 : (ByteArray.mk b.toArray).extract 24 32 = ByteArray.mk S4.toArray := by rw [e4]; exact extract_seg b 24 8
 have N1 := Lib.hid (fun W => rNumber_any S1 (by rw [e1, M.seg_length b 8 4 (by omega)]; omega) W)
 have N2 := Lib.hid (fun W => rNumber_any S2 (by rw [e2, M.seg_length b 12 4 (by omega)]; omega) W)
 have N3 := Lib.hid (fun W => rNumber_any S3 (by rw [e3, M.seg_length b 16 8 (by omega)]; omega) W)
 have N4 := Lib.hid (fun W => rNumber_any S4 (by rw [e4, M.seg_length b 24 8 (by omega)]; omega) W)
 rw [← hp] at N1
 rw [← hk] at N2
 rw [← ho] at N3
 rw [← hn] at N4
 obtain ⟨x, hx⟩ : ∃ x : Int, x = p := ⟨_, rfl⟩
 obtain ⟨y, hy⟩ : ∃ y : Int, y = k := ⟨_, rfl⟩
 have hwx : wrap64 x = x := by unfold wrap64; omega
 have hwy : wrap64 y = y := by unfold wrap64; omega
 have hvx : IntKind.i64.wrap x = x := IntWalk.i64_in _ (by omega)
 have hvy : IntKind.i64.wrap y = y := IntWalk.i64_in _ (by omega)
 rw [← hx] at N1 hR ⊢
 rw [← hy] at N2 hR ⊢
 have HR := Lib.hid (And.intro hR hB)
 clear hb e0 e1 e2 e3 e4 hp hk ho hn hR hB hp4 hk4 hx hy
 have x1 := Box4.new w 82 (.int .i64 0) (.int .i64 0) (.int .u64 0) (.int .u64 0)
 have b1 := below_new w (.cells #[.int .i64 0, .int .i64 0, .int .u64 0, .int .u64 0] 82)
 go_enter Tryz.func66, Tryz.ntmps66
 go_wp2_with fail
 generalize w.alloc (.cells #[.int .i64 0, .int .i64 0, .int .u64 0, .int .u64 0] 82) = w1 at *
 obtain ⟨g2, hg2⟩ : ∃ g2, g2 = w.heap.size := ⟨_, rfl⟩
 rw [← hg2] at x1 ⊢
 have X1 := Lib.hid (And.intro x1 (And.intro b1 hg2))
 clear x1 b1 hg2
 go_cut [4] (fun v4 wx => ∃ g4, v4 = .pointer (some ⟨g4, 0, none⟩) ∧ Box4 wx g4 (.int .i64 x) (.int .i64 y) (.int .u64 (o : Int)) (.int .u64 (n : Int)) ∧ Below w1.heap.size w1 wx ∧ g2 < g4)
 case first =>
  refine wp_region_noPanic ?_
  refine wp_region_held_drew (S := fun _ => True) (by kernel_rfl) (trivial) (fun hHeld => ?_)
  refine tkA 0 (some 6) (Op.move (Operand.tmp 0)) 9 (v := ?_) rfl (by kernel_rfl) ?_ ‹_› ?_
  rotate_left
  ·(intro w h; (try dsimp only at h); go_simp) <;> with_reducible rfl
  (try simp only [Act.put, yI, yZ, yS])
  refine tkA 1 (some 7) (Op.slice 9 (Operand.tmp 6) (some (Operand.const (Value.int IntKind.i64 8))) (some (Operand.const (Value.int IntKind.i64 12))) none) 9 (v := ?_) rfl (by kernel_rfl) ?_ ‹_› ?_
  rotate_left
  ·(intro w h; (try dsimp only at h); go_simp) <;> with_reducible rfl
  (try simp only [Act.put, yI, yZ, yS])
  refine tkA 4 (some 10) (Op.move (Operand.tmp 0)) 9 (v := ?_) rfl (by kernel_rfl) ?_ ‹_› ?_
  rotate_left
  ·(intro w h; (try dsimp only at h); go_simp) <;> with_reducible rfl
  (try simp only [Act.put, yI, yZ, yS])
  refine tkA 5 (some 11) (Op.slice 9 (Operand.tmp 10) (some (Operand.const (Value.int IntKind.i64 12))) (some (Operand.const (Value.int IntKind.i64 16))) none) 9 (v := ?_) rfl (by kernel_rfl) ?_ ‹_› ?_
  rotate_left
  ·(intro w h; (try dsimp only at h); go_simp) <;> with_reducible rfl
  (try simp only [Act.put, yI, yZ, yS])
  refine tkA 8 (some 14) (Op.move (Operand.tmp 0)) 9 (v := ?_) rfl (by kernel_rfl) ?_ ‹_› ?_
  rotate_left
  ·(intro w h; (try dsimp only at h); go_simp) <;> with_reducible rfl
  (try simp only [Act.put, yI, yZ, yS])
  refine tkA 9 (some 15) (Op.slice 9 (Operand.tmp 14) (some (Operand.const (Value.int IntKind.i64 16))) (some (Operand.const (Value.int IntKind.i64 24))) none) 9 (v := ?_) rfl (by kernel_rfl) ?_ ‹_› ?_
  rotate_left
  ·(intro w h; (try dsimp only at h); go_simp) <;> with_reducible rfl
  (try simp only [Act.put, yI, yZ, yS])
  refine tkA 11 (some 17) (Op.move (Operand.tmp 0)) 9 (v := ?_) rfl (by kernel_rfl) ?_ ‹_› ?_
  rotate_left
  ·(intro w h; (try dsimp only at h); go_simp) <;> with_reducible rfl
  (try simp only [Act.put, yI, yZ, yS])
  refine tkA 12 (some 18) (Op.slice 9 (Operand.tmp 17) (some (Operand.const (Value.int IntKind.i64 24))) (some (Operand.const (Value.int IntKind.i64 32))) none) 9 (v := ?_) rfl (by kernel_rfl) ?_ ‹_› ?_
  rotate_left
  ·(intro w h; (try dsimp only at h); go_simp) <;> with_reducible rfl
  (try simp only [Act.put, yI, yZ, yS])
  refine rdA (rs := [2, 15]) (by kernel_rfl) ?_ rfl
  refine rcA (some 8) (Op.call { callee := Callee.value (Operand.func 94), args := #[Operand.tmp 7], argTypes := #[9] }) 37 rfl (by kernel_rfl) (fun K hK => ?_) ?_
  ·go_simp
   refine (N1.out _).mono ?_
   rintro e w' ⟨rfl, rfl⟩
   go_wp2_with fail
   refine hK.out _ _ ?_ (fun hHeld => ?_)
   ·trivial
   clear hK K
   (try simp only [Act.put, yI, yZ, yS])
   refine tkA 3 (some 9) (Op.convert 37 3 (Operand.tmp 8)) 3 (v := ?_) rfl (by kernel_rfl) ?_ ‹_› ?_
   rotate_left
   ·(intro w h; (try dsimp only at h); go_simp) <;> with_reducible rfl
   (try simp only [Act.put, yI, yZ, yS])
   refine rdA (rs := [6, 15]) (by kernel_rfl) ?_ rfl
   refine rcA (some 12) (Op.call { callee := Callee.value (Operand.func 94), args := #[Operand.tmp 11], argTypes := #[9] }) 37 rfl (by kernel_rfl) (fun K hK => ?_) ?_
   ·go_simp
    refine (N2.out _).mono ?_
    rintro e w' ⟨rfl, rfl⟩
    go_wp2_with fail
    refine hK.out _ _ ?_ (fun hHeld => ?_)
    ·trivial
    clear hK K
    (try simp only [Act.put, yI, yZ, yS])
    refine tkA 7 (some 13) (Op.convert 37 3 (Operand.tmp 12)) 3 (v := ?_) rfl (by kernel_rfl) ?_ ‹_› ?_
    rotate_left
    ·(intro w h; (try dsimp only at h); go_simp) <;> with_reducible rfl
    (try simp only [Act.put, yI, yZ, yS])
    refine rdA (rs := [10, 15]) (by kernel_rfl) ?_ rfl
    refine rcA (some 16) (Op.call { callee := Callee.value (Operand.func 94), args := #[Operand.tmp 15], argTypes := #[9] }) 37 rfl (by kernel_rfl) (fun K hK => ?_) ?_
    ·go_simp
     refine (N3.out _).mono ?_
     rintro e w' ⟨rfl, rfl⟩
     go_wp2_with fail
     refine hK.out _ _ ?_ (fun hHeld => ?_)
     ·trivial
     clear hK K
     (try simp only [Act.put, yI, yZ, yS])
     refine rdA (rs := [13, 15]) (by kernel_rfl) ?_ rfl
     refine rcA (some 19) (Op.call { callee := Callee.value (Operand.func 94), args := #[Operand.tmp 18], argTypes := #[9] }) 37 rfl (by kernel_rfl) (fun K hK => ?_) ?_
     ·go_simp
      refine (N4.out _).mono ?_
      rintro e w' ⟨rfl, rfl⟩
      go_wp2_with fail
      refine hK.out _ _ ?_ (fun hHeld => ?_)
      ·trivial
      clear hK K
      (try simp only [Act.put, yI, yZ, yS])
      refine tkA 14 (some 20) (Op.build 82 #[(0, Operand.tmp 9), (1, Operand.tmp 13), (2, Operand.tmp 16), (3, Operand.tmp 19)]) 82 (v := ?_) rfl (by kernel_rfl) ?_ ‹_› ?_
      rotate_left
      ·(intro w h; (try dsimp only at h); go_simp) <;> with_reducible rfl
      (try simp only [Act.put, yI, yZ, yS])
      refine rdA (rs := [15]) (by kernel_rfl) ?_ rfl
      refine rcA (some 4) (Op.alloc 82) 0 rfl (by kernel_rfl) (fun K hK => ?_) AllReadyH.nil
      go_simp
      refine hK.out _ _ ?_ (fun hHeld => ?_)
      ·trivial
      clear hK K
      (try simp only [Act.put, yI, yZ, yS])
      refine rdA (rs := [16]) (by kernel_rfl) ?_ rfl
      refine rcA none (Op.store 82 (Operand.tmp 4) (Operand.tmp 20)) 0 rfl (by kernel_rfl) (fun K hK => ?_) AllReadyH.nil
      go_simp
      refine hK.out _ _ ?_ (fun hHeld => ?_)
      ·trivial
      clear hK K
      (try simp only [Act.put, yI, yZ, yS])
      refine wpAnyH_done (by kernel_rfl) ?_ _
      refine NoPanic.normal ?_
      go_wp2_with fail
      go_meet
      exact ⟨_, rfl, (Box4.new w1 82 _ _ _ _).below (Below.refl _ _).drew, (below_new _ _).drew, X1.out.1.lt⟩
     refine rcA (some 4) (Op.alloc 82) 0 rfl (by kernel_rfl) (fun K hK => ?_) ?_
     ·go_simp
      refine hK.out _ _ ?_ (fun hHeld => ?_)
      ·trivial
      clear hK K
      (try simp only [Act.put, yI, yZ, yS])
      refine rdA (rs := [13]) (by kernel_rfl) ?_ rfl
      refine rcA (some 19) (Op.call { callee := Callee.value (Operand.func 94), args := #[Operand.tmp 18], argTypes := #[9] }) 37 rfl (by kernel_rfl) (fun K hK => ?_) AllReadyH.nil
      go_simp
      refine (N4.out _).mono ?_
      rintro e w' ⟨rfl, rfl⟩
      go_wp2_with fail
      refine hK.out _ _ ?_ (fun hHeld => ?_)
      ·trivial
      clear hK K
      (try simp only [Act.put, yI, yZ, yS])
      refine tkA 14 (some 20) (Op.build 82 #[(0, Operand.tmp 9), (1, Operand.tmp 13), (2, Operand.tmp 16), (3, Operand.tmp 19)]) 82 (v := ?_) rfl (by kernel_rfl) ?_ ‹_› ?_
      rotate_left
      ·(intro w h; (try dsimp only at h); go_simp) <;> with_reducible rfl
      (try simp only [Act.put, yI, yZ, yS])
      refine rdA (rs := [16]) (by kernel_rfl) ?_ rfl
      refine rcA none (Op.store 82 (Operand.tmp 4) (Operand.tmp 20)) 0 rfl (by kernel_rfl) (fun K hK => ?_) AllReadyH.nil
      go_simp
      refine hK.out _ _ ?_ (fun hHeld => ?_)
      ·trivial
      clear hK K
      (try simp only [Act.put, yI, yZ, yS])
      refine wpAnyH_done (by kernel_rfl) ?_ _
      refine NoPanic.normal ?_
      go_wp2_with fail
      go_meet
      exact ⟨_, rfl, (Box4.new w1 82 _ _ _ _).below (Below.refl _ _).drew, (below_new _ _).drew, X1.out.1.lt⟩
     exact AllReadyH.nil
    refine rcA (some 4) (Op.alloc 82) 0 rfl (by kernel_rfl) (fun K hK => ?_) ?_
    ·go_simp
     refine hK.out _ _ ?_ (fun hHeld => ?_)
     ·trivial
     clear hK K
     (try simp only [Act.put, yI, yZ, yS])
     refine rdA (rs := [10]) (by kernel_rfl) ?_ rfl
     refine rcA (some 16) (Op.call { callee := Callee.value (Operand.func 94), args := #[Operand.tmp 15], argTypes := #[9] }) 37 rfl (by kernel_rfl) (fun K hK => ?_) AllReadyH.nil
     go_simp
     refine (N3.out _).mono ?_
     rintro e w' ⟨rfl, rfl⟩
     go_wp2_with fail
     refine hK.out _ _ ?_ (fun hHeld => ?_)
     ·trivial
     clear hK K
     (try simp only [Act.put, yI, yZ, yS])
     refine rdA (rs := [13]) (by kernel_rfl) ?_ rfl
     refine rcA (some 19) (Op.call { callee := Callee.value (Operand.func 94), args := #[Operand.tmp 18], argTypes := #[9] }) 37 rfl (by kernel_rfl) (fun K hK => ?_) AllReadyH.nil
     go_simp
     refine (N4.out _).mono ?_
     rintro e w' ⟨rfl, rfl⟩
     go_wp2_with fail
     refine hK.out _ _ ?_ (fun hHeld => ?_)
     ·trivial
     clear hK K
     (try simp only [Act.put, yI, yZ, yS])
     refine tkA 14 (some 20) (Op.build 82 #[(0, Operand.tmp 9), (1, Operand.tmp 13), (2, Operand.tmp 16), (3, Operand.tmp 19)]) 82 (v := ?_) rfl (by kernel_rfl) ?_ ‹_› ?_
     rotate_left
     ·(intro w h; (try dsimp only at h); go_simp) <;> with_reducible rfl
     (try simp only [Act.put, yI, yZ, yS])
     refine rdA (rs := [16]) (by kernel_rfl) ?_ rfl
     refine rcA none (Op.store 82 (Operand.tmp 4) (Operand.tmp 20)) 0 rfl (by kernel_rfl) (fun K hK => ?_) AllReadyH.nil
     go_simp
     refine hK.out _ _ ?_ (fun hHeld => ?_)
     ·trivial
     clear hK K
     (try simp only [Act.put, yI, yZ, yS])
     refine wpAnyH_done (by kernel_rfl) ?_ _
     refine NoPanic.normal ?_
     go_wp2_with fail
     go_meet
     exact ⟨_, rfl, (Box4.new w1 82 _ _ _ _).below (Below.refl _ _).drew, (below_new _ _).drew, X1.out.1.lt⟩
    exact AllReadyH.nil
   refine rcA (some 4) (Op.alloc 82) 0 rfl (by kernel_rfl) (fun K hK => ?_) ?_
   ·go_simp
    refine hK.out _ _ ?_ (fun hHeld => ?_)
    ·trivial
    clear hK K
    (try simp only [Act.put, yI, yZ, yS])
    refine rdA (rs := [6]) (by kernel_rfl) ?_ rfl
    refine rcA (some 12) (Op.call { callee := Callee.value (Operand.func 94), args := #[Operand.tmp 11], argTypes := #[9] }) 37 rfl (by kernel_rfl) (fun K hK => ?_) AllReadyH.nil
    go_simp
    refine (N2.out _).mono ?_
    rintro e w' ⟨rfl, rfl⟩
    go_wp2_with fail
    refine hK.out _ _ ?_ (fun hHeld => ?_)
    ·trivial
    clear hK K
    (try simp only [Act.put, yI, yZ, yS])
    refine tkA 7 (some 13) (Op.convert 37 3 (Operand.tmp 12)) 3 (v := ?_) rfl (by kernel_rfl) ?_ ‹_› ?_
    rotate_left
    ·(intro w h; (try dsimp only at h); go_simp) <;> with_reducible rfl
    (try simp only [Act.put, yI, yZ, yS])
    refine rdA (rs := [10]) (by kernel_rfl) ?_ rfl
    refine rcA (some 16) (Op.call { callee := Callee.value (Operand.func 94), args := #[Operand.tmp 15], argTypes := #[9] }) 37 rfl (by kernel_rfl) (fun K hK => ?_) AllReadyH.nil
    go_simp
    refine (N3.out _).mono ?_
    rintro e w' ⟨rfl, rfl⟩
    go_wp2_with fail
    refine hK.out _ _ ?_ (fun hHeld => ?_)
    ·trivial
    clear hK K
    (try simp only [Act.put, yI, yZ, yS])
    refine rdA (rs := [13]) (by kernel_rfl) ?_ rfl
    refine rcA (some 19) (Op.call { callee := Callee.value (Operand.func 94), args := #[Operand.tmp 18], argTypes := #[9] }) 37 rfl (by kernel_rfl) (fun K hK => ?_) AllReadyH.nil
    go_simp
    refine (N4.out _).mono ?_
    rintro e w' ⟨rfl, rfl⟩
    go_wp2_with fail
    refine hK.out _ _ ?_ (fun hHeld => ?_)
    ·trivial
    clear hK K
    (try simp only [Act.put, yI, yZ, yS])
    refine tkA 14 (some 20) (Op.build 82 #[(0, Operand.tmp 9), (1, Operand.tmp 13), (2, Operand.tmp 16), (3, Operand.tmp 19)]) 82 (v := ?_) rfl (by kernel_rfl) ?_ ‹_› ?_
    rotate_left
    ·(intro w h; (try dsimp only at h); go_simp) <;> with_reducible rfl
    (try simp only [Act.put, yI, yZ, yS])
    refine rdA (rs := [16]) (by kernel_rfl) ?_ rfl
    refine rcA none (Op.store 82 (Operand.tmp 4) (Operand.tmp 20)) 0 rfl (by kernel_rfl) (fun K hK => ?_) AllReadyH.nil
    go_simp
    refine hK.out _ _ ?_ (fun hHeld => ?_)
    ·trivial
    clear hK K
    (try simp only [Act.put, yI, yZ, yS])
    refine wpAnyH_done (by kernel_rfl) ?_ _
    refine NoPanic.normal ?_
    go_wp2_with fail
    go_meet
    exact ⟨_, rfl, (Box4.new w1 82 _ _ _ _).below (Below.refl _ _).drew, (below_new _ _).drew, X1.out.1.lt⟩
   exact AllReadyH.nil
  refine rcA (some 4) (Op.alloc 82) 0 rfl (by kernel_rfl) (fun K hK => ?_) ?_
  ·go_simp
   refine hK.out _ _ ?_ (fun hHeld => ?_)
   ·trivial
   clear hK K
   (try simp only [Act.put, yI, yZ, yS])
   refine rdA (rs := [2]) (by kernel_rfl) ?_ rfl
   refine rcA (some 8) (Op.call { callee := Callee.value (Operand.func 94), args := #[Operand.tmp 7], argTypes := #[9] }) 37 rfl (by kernel_rfl) (fun K hK => ?_) AllReadyH.nil
   go_simp
   refine (N1.out _).mono ?_
   rintro e w' ⟨rfl, rfl⟩
   go_wp2_with fail
   refine hK.out _ _ ?_ (fun hHeld => ?_)
   ·trivial
   clear hK K
   (try simp only [Act.put, yI, yZ, yS])
   refine tkA 3 (some 9) (Op.convert 37 3 (Operand.tmp 8)) 3 (v := ?_) rfl (by kernel_rfl) ?_ ‹_› ?_
   rotate_left
   ·(intro w h; (try dsimp only at h); go_simp) <;> with_reducible rfl
   (try simp only [Act.put, yI, yZ, yS])
   refine rdA (rs := [6]) (by kernel_rfl) ?_ rfl
   refine rcA (some 12) (Op.call { callee := Callee.value (Operand.func 94), args := #[Operand.tmp 11], argTypes := #[9] }) 37 rfl (by kernel_rfl) (fun K hK => ?_) AllReadyH.nil
   go_simp
   refine (N2.out _).mono ?_
   rintro e w' ⟨rfl, rfl⟩
   go_wp2_with fail
   refine hK.out _ _ ?_ (fun hHeld => ?_)
   ·trivial
   clear hK K
   (try simp only [Act.put, yI, yZ, yS])
   refine tkA 7 (some 13) (Op.convert 37 3 (Operand.tmp 12)) 3 (v := ?_) rfl (by kernel_rfl) ?_ ‹_› ?_
   rotate_left
   ·(intro w h; (try dsimp only at h); go_simp) <;> with_reducible rfl
   (try simp only [Act.put, yI, yZ, yS])
   refine rdA (rs := [10]) (by kernel_rfl) ?_ rfl
   refine rcA (some 16) (Op.call { callee := Callee.value (Operand.func 94), args := #[Operand.tmp 15], argTypes := #[9] }) 37 rfl (by kernel_rfl) (fun K hK => ?_) AllReadyH.nil
   go_simp
   refine (N3.out _).mono ?_
   rintro e w' ⟨rfl, rfl⟩
   go_wp2_with fail
   refine hK.out _ _ ?_ (fun hHeld => ?_)
   ·trivial
   clear hK K
   (try simp only [Act.put, yI, yZ, yS])
   refine rdA (rs := [13]) (by kernel_rfl) ?_ rfl
   refine rcA (some 19) (Op.call { callee := Callee.value (Operand.func 94), args := #[Operand.tmp 18], argTypes := #[9] }) 37 rfl (by kernel_rfl) (fun K hK => ?_) AllReadyH.nil
   go_simp
   refine (N4.out _).mono ?_
   rintro e w' ⟨rfl, rfl⟩
   go_wp2_with fail
   refine hK.out _ _ ?_ (fun hHeld => ?_)
   ·trivial
   clear hK K
   (try simp only [Act.put, yI, yZ, yS])
   refine tkA 14 (some 20) (Op.build 82 #[(0, Operand.tmp 9), (1, Operand.tmp 13), (2, Operand.tmp 16), (3, Operand.tmp 19)]) 82 (v := ?_) rfl (by kernel_rfl) ?_ ‹_› ?_
   rotate_left
   ·(intro w h; (try dsimp only at h); go_simp) <;> with_reducible rfl
   (try simp only [Act.put, yI, yZ, yS])
   refine rdA (rs := [16]) (by kernel_rfl) ?_ rfl
   refine rcA none (Op.store 82 (Operand.tmp 4) (Operand.tmp 20)) 0 rfl (by kernel_rfl) (fun K hK => ?_) AllReadyH.nil
   go_simp
   refine hK.out _ _ ?_ (fun hHeld => ?_)
   ·trivial
   clear hK K
   (try simp only [Act.put, yI, yZ, yS])
   refine wpAnyH_done (by kernel_rfl) ?_ _
   refine NoPanic.normal ?_
   go_wp2_with fail
   go_meet
   exact ⟨_, rfl, (Box4.new w1 82 _ _ _ _).below (Below.refl _ _).drew, (below_new _ _).drew, X1.out.1.lt⟩
  exact AllReadyH.nil
 case rest =>
  obtain ⟨g4, rfl, x4, b4, hlt⟩ := hcut
  have H4 := Lib.hid (And.intro x4 (And.intro b4 (X1.out.1.below b4)))
  have a0 := x4.c0
  have a1 := x4.c1
  have a2 := x4.c2
  have a3 := x4.c3
  clear x4 b4 s1 s2 s3 s4 N1 N2 N3 N4 l12 l16 l24 l32
  go_wp2_with fail
  refine (rright8_any x y o n _).mono ?_
  rintro e w5 ⟨rfl, b5⟩
  rw [← HR.out.1]
  have x5 := H4.out.2.2.below b5
  have y5 := H4.out.1.below b5
  have H5 := Lib.hid (And.intro x5 (below_call (below_call X1.out.2.1 H4.out.2.1) b5))
  clear a0 a1 a2 a3
  have a0 := x5.c0
  have a1 := x5.c1
  have a2 := x5.c2
  have a3 := x5.c3
  have fz := x5.fz
  have f0 := y5.c0
  have f1 := y5.c1
  have f2 := y5.c2
  have f3 := y5.c3
  clear x5 y5 b5 H4
  by_cases hm : S0 = [115, 116, 101, 97, 100, 105, 110, 103]
  ·have eB : B = true := by rw [HR.out.2]; exact decide_eq_true hm
   subst eB
   subst hm
   cases R with
   | true =>
    go_wp2_with fail
    have ts := H5.out.1.set (.int .i64 x) (.int .i64 y) (.int .u64 (o : Int)) (.int .u64 (n : Int))
    refine bodyPost_ret (v := .tuple #[hv x y o n, .bool true]) ?_ rfl ?_
    ·simp [results, go_sem, ts.c0, ts.c1, ts.c2, ts.c3]
    ·exact ⟨rfl, below_set4 H5.out.2 (by have := X1.out.2.2; omega) _ _ _ _⟩
   | false =>
    go_wp2_with fail
    have ts := H5.out.1.set (.int .i64 0) (.int .i64 0) (.int .u64 0) (.int .u64 0)
    refine bodyPost_ret (v := .tuple #[hv 0 0 0 0, .bool false]) ?_ rfl ?_
    ·simp [results, go_sem, ts.c0, ts.c1, ts.c2, ts.c3]
    ·exact ⟨rfl, below_set4 H5.out.2 (by have := X1.out.2.2; omega) _ _ _ _⟩
  ·have eB : B = false := by rw [HR.out.2]; exact decide_eq_false hm
   subst eB
   have hn1 : (S0 == [115, 116, 101, 97, 100, 105, 110, 103]) = false := by simpa using hm
   go_wp2_with fail
   have ts := H5.out.1.set (.int .i64 0) (.int .i64 0) (.int .u64 0) (.int .u64 0)
   refine bodyPost_ret (v := .tuple #[hv 0 0 0 0, .bool false]) ?_ rfl ?_
   ·simp [results, go_sem, ts.c0, ts.c1, ts.c2, ts.c3]
   ·exact ⟨rfl, below_set4 H5.out.2 (by have := X1.out.2.2; omega) _ _ _ _⟩
theorem rof8_any (b : List UInt8) (hb : b.length = 32) (w : World) :
  Calls Tryz.prog 66 #[.string ⟨b.toArray⟩] w fun e w' => e = .returned (.tuple #[hV b, .bool (M.isH b)]) ∧ Below w.heap.size w w' := by
 have h := rof8_go b _ _ _ _ _ hb rfl rfl rfl rfl rfl _ _ (M.hP b) (M.hK b) (M.hO b) (M.hN b) rfl rfl rfl rfl rfl rfl w
 exact h
end Go.Proofs.YtmboibipabkhaaaGreat
