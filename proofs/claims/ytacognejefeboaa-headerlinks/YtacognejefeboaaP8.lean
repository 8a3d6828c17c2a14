/-
  What 32 bytes tell: parse.
-/
import Derived.Test.YtacognejefeboaaBy8
namespace Go.Proofs.Ytacognejefeboaa
open Go.ChangeShapes Go.WideShapes Go.ChangeAt Go.RowKit
set_option linter.unusedVariables false
set_option maxRecDepth 20000

theorem get32 (A : Option Addr) (c : Nat) (b : List UInt8) (hb : b.length = 32) (a k v : Nat) (hk : k = 1 ∨ k = 2 ∨ k = 4 ∨ k = 8) (h : a + k ≤ 32) (hv : v = M.num (M.seg b a k)) (w : World) (hl : Lies w A (u8s b)) :
    Calls Try.prog 63 #[.slice A 32 c, .int .i64 a, .int .i64 k] w fun e w' => e = .returned (.tuple #[.int .u64 (v : Int), .bool true]) ∧ w = w' := by
  have := get_yes A b c a k hk (by omega) (by omega) w hl
  rw [hb, ← hv] at this
  exact this
/-- Four cells of a variable of one's own. -/
structure Box4 (w : World) (g : Nat) (v0 v1 v2 v3 : Value) : Prop where
  c0 : w.cell? ⟨g, 0, none⟩ = some v0
  c1 : w.cell? ⟨g, 1, none⟩ = some v1
  c2 : w.cell? ⟨g, 2, none⟩ = some v2
  c3 : w.cell? ⟨g, 3, none⟩ = some v3
  fz : ∀ j, w.frozen? ⟨g, j, none⟩ = false
section
variable {w w' : World} {g : Nat} {v0 v1 v2 v3 : Value} {O : Nat → Prop}
theorem Box4.new (w : World) (ty : TypeId) (v0 v1 v2 v3 : Value) : Box4 (w.alloc (.cells #[v0, v1, v2, v3] ty)) w.heap.size v0 v1 v2 v3 :=
  ⟨by rw [World.cell?_alloc_mark]; rfl, by rw [World.cell?_alloc_mark]; rfl, by rw [World.cell?_alloc_mark]; rfl, by rw [World.cell?_alloc_mark]; rfl, fun j => by rw [World.frozen?_alloc_mark]; simp⟩
theorem Box4.lt (h : Box4 w g v0 v1 v2 v3) : g < w.heap.size := lt_of_cell h.c0
theorem Box4.below (h : Box4 w g v0 v1 v2 v3) (hb : Below w.heap.size w w') : Box4 w' g v0 v1 v2 v3 :=
  ⟨(hb.cell (lt_of_cell h.c0)).trans h.c0, (hb.cell (lt_of_cell h.c1)).trans h.c1, (hb.cell (lt_of_cell h.c2)).trans h.c2, (hb.cell (lt_of_cell h.c3)).trans h.c3, fun j => (World.frozen?_of_block (hb.block g h.lt)).trans (h.fz j)⟩
theorem Box4.kept (h : Box4 w g v0 v1 v2 v3) (k : Kept w w' O) (n : ¬ O g) : Box4 w' g v0 v1 v2 v3 :=
  ⟨k.cell_some h.c0 n, k.cell_some h.c1 n, k.cell_some h.c2 n, k.cell_some h.c3 n, fun j => (k.frozen (p := ⟨g, j, none⟩) h.lt n).trans (h.fz j)⟩
theorem Box4.set (h : Box4 w g v0 v1 v2 v3) (u0 u1 u2 u3 : Value) : Box4 ((((w.setCell ⟨g, 0, none⟩ u0).setCell ⟨g, 1, none⟩ u1).setCell ⟨g, 2, none⟩ u2).setCell ⟨g, 3, none⟩ u3) g u0 u1 u2 u3 := by
  refine ⟨?_, ?_, ?_, ?_, fun j => by rw [World.frozen?_setCell, World.frozen?_setCell, World.frozen?_setCell, World.frozen?_setCell]; exact h.fz j⟩
  · rw [World.cell?_setCell_other _ _ _ _ (by simp), World.cell?_setCell_other _ _ _ _ (by simp), World.cell?_setCell_other _ _ _ _ (by simp)]
    exact World.cell?_setCell_same _ _ _ h.c0
  · rw [World.cell?_setCell_other _ _ _ _ (by simp), World.cell?_setCell_other _ _ _ _ (by simp)]
    refine World.cell?_setCell_same _ _ _ (show World.cell? _ _ = some v1 from ?_)
    rw [World.cell?_setCell_other _ _ _ _ (by simp)]
    exact h.c1
  · rw [World.cell?_setCell_other _ _ _ _ (by simp)]
    refine World.cell?_setCell_same _ _ _ (show World.cell? _ _ = some v2 from ?_)
    rw [World.cell?_setCell_other _ _ _ _ (by simp), World.cell?_setCell_other _ _ _ _ (by simp)]
    exact h.c2
  · refine World.cell?_setCell_same _ _ _ (show World.cell? _ _ = some v3 from ?_)
    rw [World.cell?_setCell_other _ _ _ _ (by simp), World.cell?_setCell_other _ _ _ _ (by simp), World.cell?_setCell_other _ _ _ _ (by simp)]
    exact h.c3
theorem below_set4 {B : Nat} {a : World} (h : Below B a w) (hg : B ≤ g) (u0 u1 u2 u3 : Value) : Below B a ((((w.setCell ⟨g, 0, none⟩ u0).setCell ⟨g, 1, none⟩ u1).setCell ⟨g, 2, none⟩ u2).setCell ⟨g, 3, none⟩ u3) :=
  (((h.setCell (p := ⟨g, 0, none⟩) hg u0).setCell (p := ⟨g, 1, none⟩) hg u1).setCell (p := ⟨g, 2, none⟩) hg u2).setCell (p := ⟨g, 3, none⟩) hg u3
theorem kept_set4 (w : World) (g : Nat) (u0 u1 u2 u3 : Value) : Kept w ((((w.setCell ⟨g, 0, none⟩ u0).setCell ⟨g, 1, none⟩ u1).setCell ⟨g, 2, none⟩ u2).setCell ⟨g, 3, none⟩ u3) (fun b => b = g) :=
  ((((Kept.refl w (fun b => b = g)).setCell (p := ⟨g, 0, none⟩) (fun _ => rfl) u0).setCell (p := ⟨g, 1, none⟩) (fun _ => rfl) u1).setCell (p := ⟨g, 2, none⟩) (fun _ => rfl) u2).setCell (p := ⟨g, 3, none⟩) (fun _ => rfl) u3
end

/-- The fields of 32 bytes, as letters. -/
structure Tells (b : List UInt8) (p k o n : Nat) : Prop where
  p : p = M.num (M.seg b 8 4)
  k : k = M.num (M.seg b 12 4)
  o : o = M.num (M.seg b 16 8)
  n : n = M.num (M.seg b 24 8)
set_option maxHeartbeats 4000000 in
theorem parse_mark (A : Option Addr) (c : Nat) (b : List UInt8) (hb : b.length = 32) (hc : 32 ≤ c) (p k o n : Nat) (ht : Tells b p k o n) (hm : b.take 8 = M.mark) (w : World) (hl : Lies w A (u8s b)) (R : Bool) (hR : R = M.right (p : Nat) (k : Nat)) :
    Calls Try.prog 53 #[.slice A 32 c] w fun e w' => e = .returned (.tuple #[if R = true then hv p k o n else hv 0 0 0 0, .bool R]) ∧ Below w.heap.size w w' := by
  have hp4 : p < 4294967296 := by have := M.hP_lt b hb; unfold M.hP at this; rw [ht.p]; exact this
  have hk4 : k < 4294967296 := by have := M.hK_lt b hb; unfold M.hK at this; rw [ht.k]; exact this
  have HL := Lib.hid hl
  have HB := Lib.hid hb
  have HT := Lib.hid ht
  obtain ⟨A', c', hcut, hlies⟩ := cut_to A 32 c 8 8 rfl (by omega)
  have L1 := fun (W : World) (h : Lies W A (u8s b)) => hlies W _ h
  have HC := Lib.hid L1
  have HM := Lib.hid hm
  clear hl hb ht hlies L1 hm hc
  obtain ⟨x, hx⟩ : ∃ x : Int, x = p := ⟨_, rfl⟩
  obtain ⟨y, hy⟩ : ∃ y : Int, y = k := ⟨_, rfl⟩
  have hwx : wrap64 x = x := by unfold wrap64; omega
  have hwy : wrap64 y = y := by unfold wrap64; omega
  have G1 := Lib.hid (fun (W : World) (h : Lies W A (u8s b)) => get32 A c b HB.out 8 4 p (by omega) (by omega) HT.out.p W h)
  have G2 := Lib.hid (fun (W : World) (h : Lies W A (u8s b)) => get32 A c b HB.out 12 4 k (by omega) (by omega) HT.out.k W h)
  rw [← hx] at G1 hR ⊢
  rw [← hy] at G2 hR ⊢
  have HR := Lib.hid hR
  clear hx hy hp4 hk4 hR
  go_enter Try.func53, Try.ntmps53
  go_wp2_with fail
  have x1 := Box4.new w 33 (.int .i64 0) (.int .i64 0) (.int .u64 0) (.int .u64 0)
  have b1 := below_new w (.cells #[.int .i64 0, .int .i64 0, .int .u64 0, .int .u64 0] 33)
  generalize w.alloc (.cells #[.int .i64 0, .int .i64 0, .int .u64 0, .int .u64 0] 33) = w1 at *
  obtain ⟨g2, hg2⟩ : ∃ g2, g2 = w.heap.size := ⟨_, rfl⟩
  rw [← hg2] at x1 ⊢
  have X1 := Lib.hid (And.intro x1 (And.intro b1 hg2))
  clear x1 b1 hg2
  refine (G1.out _ (HL.out.below X1.out.2.1)).mono ?_
  rintro e w' ⟨rfl, rfl⟩
  go_wp2_with fail
  refine (G2.out _ (HL.out.below X1.out.2.1)).mono ?_
  rintro e w' ⟨rfl, rfl⟩
  go_wp2_with fail
  refine (get32 A c b HB.out 16 8 o (by omega) (by omega) HT.out.o _ (HL.out.below X1.out.2.1)).mono ?_
  rintro e w' ⟨rfl, rfl⟩
  go_wp2_with fail
  refine (get32 A c b HB.out 24 8 n (by omega) (by omega) HT.out.n _ (HL.out.below X1.out.2.1)).mono ?_
  rintro e w' ⟨rfl, rfl⟩
  go_upto_region 6 with fail
  have x2 := Box4.new w1 33 (.int .i64 x) (.int .i64 y) (.int .u64 (o : Int)) (.int .u64 (n : Int))
  have b2 := below_new w1 (.cells #[.int .i64 x, .int .i64 y, .int .u64 (o : Int), .int .u64 (n : Int)] 33)
  generalize w1.alloc (.cells #[.int .i64 x, .int .i64 y, .int .u64 (o : Int), .int .u64 (n : Int)] 33) = w2 at *
  obtain ⟨g12, hg12⟩ : ∃ g12, g12 = w1.heap.size := ⟨_, rfl⟩
  rw [← hg12] at x2 ⊢
  have bw2 := below_call X1.out.2.1 b2
  have l2 := HC.out _ (HL.out.below bw2)
  have hcv := conv_at w2 A' 8 (b.take 8) c' (by have := HB.out; simp; omega) (by rw [u8s_take]; exact l2)
  have X2 := Lib.hid (show Box4 w2 g2 (.int .i64 0) (.int .i64 0) (.int .u64 0) (.int .u64 0) ∧ Box4 w2 g12 (.int .i64 x) (.int .i64 y) (.int .u64 (o : Int)) (.int .u64 (n : Int)) ∧ Below w.heap.size w w2 ∧ g2 = w.heap.size ∧ g2 < g12 from ⟨X1.out.1.below b2, x2, bw2, X1.out.2.2, by rw [hg12]; exact X1.out.1.lt⟩)
  have a0 := x2.c0
  have a1 := x2.c1
  have a2 := x2.c2
  have a3 := x2.c3
  rw [HM.out] at hcv
  have hcv : (convert 34 9 (.slice A' 8 c')).run Try.prog w2 = .ok (.string ⟨#[115, 116, 101, 97, 100, 105, 110, 103]⟩) w2 := hcv
  clear x2 b2 bw2 l2 hg12 X1
  go_wp2_with fail
  refine (hright_any x y o n _).mono ?_
  rintro e w3 ⟨rfl, b3⟩
  rw [← HR.out]
  have x3 := X2.out.1.below b3
  have y3 := X2.out.2.1.below b3
  have X3 := Lib.hid (show Box4 w3 g2 _ _ _ _ ∧ Below w.heap.size w w3 ∧ g2 = w.heap.size from ⟨x3, below_call X2.out.2.2.1 b3, X2.out.2.2.2.1⟩)
  clear a0 a1 a2 a3
  have a0 := x3.c0
  have a1 := x3.c1
  have a2 := x3.c2
  have a3 := x3.c3
  have fz := x3.fz
  have e0 := y3.c0
  have e1 := y3.c1
  have e2 := y3.c2
  have e3 := y3.c3
  have hne : g2 < g12 := X2.out.2.2.2.2
  clear x3 y3 b3 hcv hcut
  cases R with
  | true =>
    go_wp2_with fail
    have ts := X3.out.1.set (.int .i64 x) (.int .i64 y) (.int .u64 (o : Int)) (.int .u64 (n : Int))
    refine bodyPost_ret (v := .tuple #[hv x y o n, .bool true]) ?_ rfl ?_
    · simp [results, go_sem, ts.c0, ts.c1, ts.c2, ts.c3]
    · exact ⟨rfl, below_set4 X3.out.2.1 (by have := X3.out.2.2; omega) _ _ _ _⟩
  | false =>
    go_wp2_with fail
    have ts := X3.out.1.set (.int .i64 0) (.int .i64 0) (.int .u64 0) (.int .u64 0)
    refine bodyPost_ret (v := .tuple #[hv 0 0 0 0, .bool false]) ?_ rfl ?_
    · simp [results, go_sem, ts.c0, ts.c1, ts.c2, ts.c3]
    · exact ⟨rfl, below_set4 X3.out.2.1 (by have := X3.out.2.2; omega) _ _ _ _⟩
set_option maxHeartbeats 4000000 in
theorem parse_other (A : Option Addr) (c : Nat) (b : List UInt8) (hb : b.length = 32) (hc : 32 ≤ c) (hm : b.take 8 ≠ M.mark) (w : World) (hl : Lies w A (u8s b)) :
    Calls Try.prog 53 #[.slice A 32 c] w fun e w' => e = .returned (.tuple #[hv 0 0 0 0, .bool false]) ∧ Below w.heap.size w w' := by
  obtain ⟨p, k, o, n, ht⟩ : ∃ p k o n, Tells b p k o n := ⟨_, _, _, _, rfl, rfl, rfl, rfl⟩
  have hp4 : p < 4294967296 := by have := M.hP_lt b hb; unfold M.hP at this; rw [ht.p]; exact this
  have hk4 : k < 4294967296 := by have := M.hK_lt b hb; unfold M.hK at this; rw [ht.k]; exact this
  have HL := Lib.hid hl
  have HB := Lib.hid hb
  have HT := Lib.hid ht
  obtain ⟨A', c', hcut, hlies⟩ := cut_to A 32 c 8 8 rfl (by omega)
  have HC := Lib.hid (fun (W : World) (h : Lies W A (u8s b)) => hlies W _ h)
  have hne : ¬ (b.take 8 = [115, 116, 101, 97, 100, 105, 110, 103]) := hm
  have HM := Lib.hid hne
  clear hl hb ht hlies hc hm hne
  obtain ⟨x, hx⟩ : ∃ x : Int, x = p := ⟨_, rfl⟩
  obtain ⟨y, hy⟩ : ∃ y : Int, y = k := ⟨_, rfl⟩
  have hwx : wrap64 x = x := by unfold wrap64; omega
  have hwy : wrap64 y = y := by unfold wrap64; omega
  have G1 := Lib.hid (fun (W : World) (h : Lies W A (u8s b)) => get32 A c b HB.out 8 4 p (by omega) (by omega) HT.out.p W h)
  have G2 := Lib.hid (fun (W : World) (h : Lies W A (u8s b)) => get32 A c b HB.out 12 4 k (by omega) (by omega) HT.out.k W h)
  rw [← hx] at G1
  rw [← hy] at G2
  clear hx hy hp4 hk4
  go_enter Try.func53, Try.ntmps53
  go_wp2_with fail
  have x1 := Box4.new w 33 (.int .i64 0) (.int .i64 0) (.int .u64 0) (.int .u64 0)
  have b1 := below_new w (.cells #[.int .i64 0, .int .i64 0, .int .u64 0, .int .u64 0] 33)
  generalize w.alloc (.cells #[.int .i64 0, .int .i64 0, .int .u64 0, .int .u64 0] 33) = w1 at *
  obtain ⟨g2, hg2⟩ : ∃ g2, g2 = w.heap.size := ⟨_, rfl⟩
  rw [← hg2] at x1 ⊢
  have X1 := Lib.hid (And.intro x1 (And.intro b1 hg2))
  clear x1 b1 hg2
  refine (G1.out _ (HL.out.below X1.out.2.1)).mono ?_
  rintro e w' ⟨rfl, rfl⟩
  go_wp2_with fail
  refine (G2.out _ (HL.out.below X1.out.2.1)).mono ?_
  rintro e w' ⟨rfl, rfl⟩
  go_wp2_with fail
  refine (get32 A c b HB.out 16 8 o (by omega) (by omega) HT.out.o _ (HL.out.below X1.out.2.1)).mono ?_
  rintro e w' ⟨rfl, rfl⟩
  go_wp2_with fail
  refine (get32 A c b HB.out 24 8 n (by omega) (by omega) HT.out.n _ (HL.out.below X1.out.2.1)).mono ?_
  rintro e w' ⟨rfl, rfl⟩
  go_upto_region 6 with fail
  have x2 := Box4.new w1 33 (.int .i64 x) (.int .i64 y) (.int .u64 (o : Int)) (.int .u64 (n : Int))
  have b2 := below_new w1 (.cells #[.int .i64 x, .int .i64 y, .int .u64 (o : Int), .int .u64 (n : Int)] 33)
  generalize w1.alloc (.cells #[.int .i64 x, .int .i64 y, .int .u64 (o : Int), .int .u64 (n : Int)] 33) = w2 at *
  obtain ⟨g12, hg12⟩ : ∃ g12, g12 = w1.heap.size := ⟨_, rfl⟩
  rw [← hg12] at x2 ⊢
  have bw2 := below_call X1.out.2.1 b2
  have l2 := HC.out _ (HL.out.below bw2)
  have hcv := conv_at w2 A' 8 (b.take 8) c' (by have := HB.out; simp; omega) (by rw [u8s_take]; exact l2)
  have x3 := X1.out.1.below b2
  have X3 := Lib.hid (show Box4 w2 g2 _ _ _ _ ∧ Below w.heap.size w w2 ∧ g2 = w.heap.size from ⟨x3, bw2, X1.out.2.2⟩)
  have a0 := x3.c0
  have a1 := x3.c1
  have a2 := x3.c2
  have a3 := x3.c3
  have fz := x3.fz
  have hne := HM.out
  generalize b.take 8 = L at *
  have hn1 : (L == [115, 116, 101, 97, 100, 105, 110, 103]) = false := by simpa using hne
  clear x2 b2 bw2 l2 hg12 X1 x3
  go_wp2_with fail
  have ts := X3.out.1.set (.int .i64 0) (.int .i64 0) (.int .u64 0) (.int .u64 0)
  refine bodyPost_ret (v := .tuple #[hv 0 0 0 0, .bool false]) ?_ rfl ?_
  · simp [results, go_sem, ts.c0, ts.c1, ts.c2, ts.c3]
  · exact ⟨rfl, below_set4 X3.out.2.1 (by have := X3.out.2.2; omega) _ _ _ _⟩
/-- What 32 bytes tell, as a value. -/
def hV (b : List UInt8) : Value := if M.isH b = true then hv (M.hP b : Nat) (M.hK b : Nat) (M.hO b : Nat) (M.hN b : Nat) else hv 0 0 0 0
theorem parse_any (A : Option Addr) (c : Nat) (b : List UInt8) (hb : b.length = 32) (hc : 32 ≤ c) (w : World) (hl : Lies w A (u8s b)) :
    Calls Try.prog 53 #[.slice A 32 c] w fun e w' => e = .returned (.tuple #[hV b, .bool (M.isH b)]) ∧ Below w.heap.size w w' := by
  by_cases hm : b.take 8 = M.mark
  · have h := parse_mark A c b hb hc (M.hP b) (M.hK b) (M.hO b) (M.hN b) ⟨rfl, rfl, rfl, rfl⟩ hm w hl _ rfl
    have e : M.isH b = M.right (M.hP b : Nat) (M.hK b : Nat) := by unfold M.isH; simp [hm]
    unfold hV
    rw [e]
    exact h
  · have h := parse_other A c b hb hc hm w hl
    have e : M.isH b = false := M.isH_other hm
    unfold hV
    rw [e, if_neg (by decide)]
    exact h
end Go.Proofs.Ytacognejefeboaa
