/-
  What 32 bytes tell: parse.
-/
import Derived.Test.YtmagdhcpbofkbaaK7
import Derived.Deep.DeepCutAuto
namespace Go.Proofs.Ytmagdhcpbofkbaa
open Go.ChangeShapes Go.WideShapes Go.ChangeAt Go.RowKit
set_option linter.unusedVariables false
set_option maxRecDepth 20000

theorem get32 (A : Option Addr) (c : Nat) (b : List UInt8) (hb : b.length = 32) (a k v : Nat) (hk : k = 1 ∨ k = 2 ∨ k = 4 ∨ k = 8) (h : a + k ≤ 32) (hv : v = M.num (M.seg b a k)) (w : World) (hl : Lies w A (u8s b)) :
    Calls Try.prog 64 #[.slice A 32 c, .int .i64 a, .int .i64 k] w fun e w' => e = .returned (.tuple #[.int .u64 (v : Int), .bool true]) ∧ w = w' := by
  have := get_yes A b c a k hk (by omega) (by omega) w hl
  rw [hb, ← hv] at this
  exact this
/-- Four cells of a variable of one's own. -/
structure Box4 (w : World) (g : Nat) (v0 v1 v2 v3 : Value) : Prop where
  c0 : w.cell? ⟨g, 0, none⟩ = some v0
  c1 : w.cell? ⟨g, 1, none⟩ = some v1
  c2 : w.cell? ⟨g, 2, none⟩ = some v2
  c3 : w.cell? ⟨g, 3, none⟩ = some v3
  fz : ∀ j, w.frozen? ⟨g, j, none⟩ = false
section
variable {w w' : World} {g : Nat} {v0 v1 v2 v3 : Value} {O : Nat → Prop}
theorem Box4.new (w : World) (ty : TypeId) (v0 v1 v2 v3 : Value) : Box4 (w.alloc (.cells #[v0, v1, v2, v3] ty)) w.heap.size v0 v1 v2 v3 :=
  ⟨by rw [World.cell?_alloc_mark]; rfl, by rw [World.cell?_alloc_mark]; rfl, by rw [World.cell?_alloc_mark]; rfl, by rw [World.cell?_alloc_mark]; rfl, fun j => by rw [World.frozen?_alloc_mark]; simp⟩
theorem Box4.lt (h : Box4 w g v0 v1 v2 v3) : g < w.heap.size := lt_of_cell h.c0
theorem Box4.below (h : Box4 w g v0 v1 v2 v3) (hb : Below w.heap.size w w') : Box4 w' g v0 v1 v2 v3 :=
  ⟨(hb.cell (lt_of_cell h.c0)).trans h.c0, (hb.cell (lt_of_cell h.c1)).trans h.c1, (hb.cell (lt_of_cell h.c2)).trans h.c2, (hb.cell (lt_of_cell h.c3)).trans h.c3, fun j => (World.frozen?_of_block (hb.block g h.lt)).trans (h.fz j)⟩
theorem Box4.kept (h : Box4 w g v0 v1 v2 v3) (k : Kept w w' O) (n : ¬ O g) : Box4 w' g v0 v1 v2 v3 :=
  ⟨k.cell_some h.c0 n, k.cell_some h.c1 n, k.cell_some h.c2 n, k.cell_some h.c3 n, fun j => (k.frozen (p := ⟨g, j, none⟩) h.lt n).trans (h.fz j)⟩
theorem Box4.set (h : Box4 w g v0 v1 v2 v3) (u0 u1 u2 u3 : Value) : Box4 ((((w.setCell ⟨g, 0, none⟩ u0).setCell ⟨g, 1, none⟩ u1).setCell ⟨g, 2, none⟩ u2).setCell ⟨g, 3, none⟩ u3) g u0 u1 u2 u3 := by
  refine ⟨?_, ?_, ?_, ?_, fun j => by rw [World.frozen?_setCell, World.frozen?_setCell, World.frozen?_setCell, World.frozen?_setCell]; exact h.fz j⟩
  · rw [World.cell?_setCell_other _ _ _ _ (by simp), World.cell?_setCell_other _ _ _ _ (by simp), World.cell?_setCell_other _ _ _ _ (by simp)]
    exact World.cell?_setCell_same _ _ _ h.c0
  · rw [World.cell?_setCell_other _ _ _ _ (by simp), World.cell?_setCell_other _ _ _ _ (by simp)]
    refine World.cell?_setCell_same _ _ _ (show World.cell? _ _ = some v1 from ?_)
    rw [World.cell?_setCell_other _ _ _ _ (by simp)]
    exact h.c1
  · rw [World.cell?_setCell_other _ _ _ _ (by simp)]
    refine World.cell?_setCell_same _ _ _ (show World.cell? _ _ = some v2 from ?_)
    rw [World.cell?_setCell_other _ _ _ _ (by simp), World.cell?_setCell_other _ _ _ _ (by simp)]
    exact h.c2
  · refine World.cell?_setCell_same _ _ _ (show World.cell? _ _ = some v3 from ?_)
    rw [World.cell?_setCell_other _ _ _ _ (by simp), World.cell?_setCell_other _ _ _ _ (by simp), World.cell?_setCell_other _ _ _ _ (by simp)]
    exact h.c3
theorem below_set4 {B : Nat} {a : World} (h : Below B a w) (hg : B ≤ g) (u0 u1 u2 u3 : Value) : Below B a ((((w.setCell ⟨g, 0, none⟩ u0).setCell ⟨g, 1, none⟩ u1).setCell ⟨g, 2, none⟩ u2).setCell ⟨g, 3, none⟩ u3) :=
  (((h.setCell (p := ⟨g, 0, none⟩) hg u0).setCell (p := ⟨g, 1, none⟩) hg u1).setCell (p := ⟨g, 2, none⟩) hg u2).setCell (p := ⟨g, 3, none⟩) hg u3
theorem kept_set4 (w : World) (g : Nat) (u0 u1 u2 u3 : Value) : Kept w ((((w.setCell ⟨g, 0, none⟩ u0).setCell ⟨g, 1, none⟩ u1).setCell ⟨g, 2, none⟩ u2).setCell ⟨g, 3, none⟩ u3) (fun b => b = g) :=
  ((((Kept.refl w (fun b => b = g)).setCell (p := ⟨g, 0, none⟩) (fun _ => rfl) u0).setCell (p := ⟨g, 1, none⟩) (fun _ => rfl) u1).setCell (p := ⟨g, 2, none⟩) (fun _ => rfl) u2).setCell (p := ⟨g, 3, none⟩) (fun _ => rfl) u3
end

/-- The fields of 32 bytes, as letters. -/
structure Tells (b : List UInt8) (p k o n : Nat) : Prop where
  p : p = M.num (M.seg b 8 4)
  k : k = M.num (M.seg b 12 4)
  o : o = M.num (M.seg b 16 8)
  n : n = M.num (M.seg b 24 8)
set_option maxHeartbeats 4000000 in
theorem parse_mark (A : Option Addr) (c : Nat) (b : List UInt8) (hb : b.length = 32) (hc : 32 ≤ c) (p k o n : Nat) (ht : Tells b p k o n) (hm : b.take 8 = M.mark) (w : World) (hl : Lies w A (u8s b)) (R : Bool) (hR : R = M.right (p : Nat) (k : Nat)) :
    Calls Try.prog 42 #[.slice A 32 c] w fun e w' => e = .returned (.tuple #[if R = true then hv p k o n else hv 0 0 0 0, .bool R]) ∧ Below w.heap.size w w' := by
  have hp4 : p < 4294967296 := by have := M.hP_lt b hb; unfold M.hP at this; rw [ht.p]; exact this
  have hk4 : k < 4294967296 := by have := M.hK_lt b hb; unfold M.hK at this; rw [ht.k]; exact this
  have HL := Lib.hid hl
  have HB := Lib.hid hb
  have HT := Lib.hid ht
  obtain ⟨A', c', hcut, hlies⟩ := cut_to A 32 c 8 8 rfl (by omega)
  have L1 := fun (W : World) (h : Lies W A (u8s b)) => hlies W _ h
  have HC := Lib.hid L1
  have HM := Lib.hid hm
  clear hl hb ht hlies L1 hm hc
  obtain ⟨x, hx⟩ : ∃ x : Int, x = p := ⟨_, rfl⟩
  obtain ⟨y, hy⟩ : ∃ y : Int, y = k := ⟨_, rfl⟩
  have hwx : wrap64 x = x := by unfold wrap64; omega
  have hwy : wrap64 y = y := by unfold wrap64; omega
  have G1 := Lib.hid (fun (W : World) (h : Lies W A (u8s b)) => get32 A c b HB.out 8 4 p (by omega) (by omega) HT.out.p W h)
  have G2 := Lib.hid (fun (W : World) (h : Lies W A (u8s b)) => get32 A c b HB.out 12 4 k (by omega) (by omega) HT.out.k W h)
  rw [← hx] at G1 hR ⊢
  rw [← hy] at G2 hR ⊢
  have HR := Lib.hid hR
  clear hx hy hp4 hk4 hR
  go_enter Try.func42, Try.ntmps42
  go_wp2_with fail
  have x1 := Box4.new w 41 (.int .i64 0) (.int .i64 0) (.int .u64 0) (.int .u64 0)
  have b1 := below_new w (.cells #[.int .i64 0, .int .i64 0, .int .u64 0, .int .u64 0] 41)
  generalize w.alloc (.cells #[.int .i64 0, .int .i64 0, .int .u64 0, .int .u64 0] 41) = w1 at *
  obtain ⟨g2, hg2⟩ : ∃ g2, g2 = w.heap.size := ⟨_, rfl⟩
  rw [← hg2] at x1 ⊢
  have X1 := Lib.hid (And.intro x1 (And.intro b1 hg2))
  clear x1 b1 hg2
  refine (G1.out _ (HL.out.below X1.out.2.1)).mono ?_
  rintro e w' ⟨rfl, rfl⟩
  go_wp2_with fail
  refine (G2.out _ (HL.out.below X1.out.2.1)).mono ?_
  rintro e w' ⟨rfl, rfl⟩
  go_wp2_with fail
  refine (get32 A c b HB.out 16 8 o (by omega) (by omega) HT.out.o _ (HL.out.below X1.out.2.1)).mono ?_
  rintro e w' ⟨rfl, rfl⟩
  go_wp2_with fail
  refine (get32 A c b HB.out 24 8 n (by omega) (by omega) HT.out.n _ (HL.out.below X1.out.2.1)).mono ?_
  rintro e w' ⟨rfl, rfl⟩
  go_upto_region 6 with fail
  have x2 := Box4.new w1 41 (.int .i64 x) (.int .i64 y) (.int .u64 (o : Int)) (.int .u64 (n : Int))
  have b2 := below_new w1 (.cells #[.int .i64 x, .int .i64 y, .int .u64 (o : Int), .int .u64 (n : Int)] 41)
  generalize w1.alloc (.cells #[.int .i64 x, .int .i64 y, .int .u64 (o : Int), .int .u64 (n : Int)] 41) = w2 at *
  obtain ⟨g12, hg12⟩ : ∃ g12, g12 = w1.heap.size := ⟨_, rfl⟩
  rw [← hg12] at x2 ⊢
  have bw2 := below_call X1.out.2.1 b2
  have l2 := HC.out _ (HL.out.below bw2)
  have hcv := conv_at w2 A' 8 (b.take 8) c' (by have := HB.out; simp; omega) (by rw [u8s_take]; exact l2)
  have X2 := Lib.hid (show Box4 w2 g2 (.int .i64 0) (.int .i64 0) (.int .u64 0) (.int .u64 0) ∧ Box4 w2 g12 (.int .i64 x) (.int .i64 y) (.int .u64 (o : Int)) (.int .u64 (n : Int)) ∧ Below w.heap.size w w2 ∧ g2 = w.heap.size ∧ g2 < g12 from ⟨X1.out.1.below b2, x2, bw2, X1.out.2.2, by rw [hg12]; exact X1.out.1.lt⟩)
  have a0 := x2.c0
  have a1 := x2.c1
  have a2 := x2.c2
  have a3 := x2.c3
  rw [HM.out] at hcv
  have hcv : (convert 22 9 (.slice A' 8 c')).run Try.prog w2 = .ok (.string ⟨#[115, 116, 101, 97, 100, 105, 110, 103]⟩) w2 := hcv
  clear x2 b2 bw2 l2 hg12 X1
  go_wp2_with fail
  refine (hright_any x y o n _).mono ?_
  rintro e w3 ⟨rfl, b3⟩
  rw [← HR.out]
  have x3 := X2.out.1.below b3
  have y3 := X2.out.2.1.below b3
  have X3 := Lib.hid (show Box4 w3 g2 _ _ _ _ ∧ Below w.heap.size w w3 ∧ g2 = w.heap.size from ⟨x3, below_call X2.out.2.2.1 b3, X2.out.2.2.2.1⟩)
  clear a0 a1 a2 a3
  have a0 := x3.c0
  have a1 := x3.c1
  have a2 := x3.c2
  have a3 := x3.c3
  have fz := x3.fz
  have e0 := y3.c0
  have e1 := y3.c1
  have e2 := y3.c2
  have e3 := y3.c3
  have hne : g2 < g12 := X2.out.2.2.2.2
  clear x3 y3 b3 hcv hcut
  cases R with
  | true =>
    go_wp2_with fail
    have ts := X3.out.1.set (.int .i64 x) (.int .i64 y) (.int .u64 (o : Int)) (.int .u64 (n : Int))
    refine bodyPost_ret (v := .tuple #[hv x y o n, .bool true]) ?_ rfl ?_
    · simp [results, go_sem, ts.c0, ts.c1, ts.c2, ts.c3]
    · exact ⟨rfl, below_set4 X3.out.2.1 (by have := X3.out.2.2; omega) _ _ _ _⟩
  | false =>
    go_wp2_with fail
    have ts := X3.out.1.set (.int .i64 0) (.int .i64 0) (.int .u64 0) (.int .u64 0)
    refine bodyPost_ret (v := .tuple #[hv 0 0 0 0, .bool false]) ?_ rfl ?_
    · simp [results, go_sem, ts.c0, ts.c1, ts.c2, ts.c3]
    · exact ⟨rfl, below_set4 X3.out.2.1 (by have := X3.out.2.2; omega) _ _ _ _⟩
set_option maxHeartbeats 4000000 in
theorem parse_other (A : Option Addr) (c : Nat) (b : List UInt8) (hb : b.length = 32) (hc : 32 ≤ c) (hm : b.take 8 ≠ M.mark) (w : World) (hl : Lies w A (u8s b)) :
    Calls Try.prog 42 #[.slice A 32 c] w fun e w' => e = .returned (.tuple #[hv 0 0 0 0, .bool false]) ∧ Below w.heap.size w w' := by
  obtain ⟨p, k, o, n, ht⟩ : ∃ p k o n, Tells b p k o n := ⟨_, _, _, _, rfl, rfl, rfl, rfl⟩
  have hp4 : p < 4294967296 := by have := M.hP_lt b hb; unfold M.hP at this; rw [ht.p]; exact this
  have hk4 : k < 4294967296 := by have := M.hK_lt b hb; unfold M.hK at this; rw [ht.k]; exact this
  have HL := Lib.hid hl
  have HB := Lib.hid hb
  have HT := Lib.hid ht
  obtain ⟨A', c', hcut, hlies⟩ := cut_to A 32 c 8 8 rfl (by omega)
  have HC := Lib.hid (fun (W : World) (h : Lies W A (u8s b)) => hlies W _ h)
  have hne : ¬ (b.take 8 = [115, 116, 101, 97, 100, 105, 110, 103]) := hm
  have HM := Lib.hid hne
  clear hl hb ht hlies hc hm hne
  obtain ⟨x, hx⟩ : ∃ x : Int, x = p := ⟨_, rfl⟩
  obtain ⟨y, hy⟩ : ∃ y : Int, y = k := ⟨_, rfl⟩
  have hwx : wrap64 x = x := by unfold wrap64; omega
  have hwy : wrap64 y = y := by unfold wrap64; omega
  have G1 := Lib.hid (fun (W : World) (h : Lies W A (u8s b)) => get32 A c b HB.out 8 4 p (by omega) (by omega) HT.out.p W h)
  have G2 := Lib.hid (fun (W : World) (h : Lies W A (u8s b)) => get32 A c b HB.out 12 4 k (by omega) (by omega) HT.out.k W h)
  rw [← hx] at G1
  rw [← hy] at G2
  clear hx hy hp4 hk4
  go_enter Try.func42, Try.ntmps42
  go_wp2_with fail
  have x1 := Box4.new w 41 (.int .i64 0) (.int .i64 0) (.int .u64 0) (.int .u64 0)
  have b1 := below_new w (.cells #[.int .i64 0, .int .i64 0, .int .u64 0, .int .u64 0] 41)
  generalize w.alloc (.cells #[.int .i64 0, .int .i64 0, .int .u64 0, .int .u64 0] 41) = w1 at *
  obtain ⟨g2, hg2⟩ : ∃ g2, g2 = w.heap.size := ⟨_, rfl⟩
  rw [← hg2] at x1 ⊢
  have X1 := Lib.hid (And.intro x1 (And.intro b1 hg2))
  clear x1 b1 hg2
  refine (G1.out _ (HL.out.below X1.out.2.1)).mono ?_
  rintro e w' ⟨rfl, rfl⟩
  go_wp2_with fail
  refine (G2.out _ (HL.out.below X1.out.2.1)).mono ?_
  rintro e w' ⟨rfl, rfl⟩
  go_wp2_with fail
  refine (get32 A c b HB.out 16 8 o (by omega) (by omega) HT.out.o _ (HL.out.below X1.out.2.1)).mono ?_
  rintro e w' ⟨rfl, rfl⟩
  go_wp2_with fail
  refine (get32 A c b HB.out 24 8 n (by omega) (by omega) HT.out.n _ (HL.out.below X1.out.2.1)).mono ?_
  rintro e w' ⟨rfl, rfl⟩
  go_upto_region 6 with fail
  have x2 := Box4.new w1 41 (.int .i64 x) (.int .i64 y) (.int .u64 (o : Int)) (.int .u64 (n : Int))
  have b2 := below_new w1 (.cells #[.int .i64 x, .int .i64 y, .int .u64 (o : Int), .int .u64 (n : Int)] 41)
  generalize w1.alloc (.cells #[.int .i64 x, .int .i64 y, .int .u64 (o : Int), .int .u64 (n : Int)] 41) = w2 at *
  obtain ⟨g12, hg12⟩ : ∃ g12, g12 = w1.heap.size := ⟨_, rfl⟩
  rw [← hg12] at x2 ⊢
  have bw2 := below_call X1.out.2.1 b2
  have l2 := HC.out _ (HL.out.below bw2)
  have hcv := conv_at w2 A' 8 (b.take 8) c' (by have := HB.out; simp; omega) (by rw [u8s_take]; exact l2)
  have x3 := X1.out.1.below b2
  have X3 := Lib.hid (show Box4 w2 g2 _ _ _ _ ∧ Below w.heap.size w w2 ∧ g2 = w.heap.size from ⟨x3, bw2, X1.out.2.2⟩)
  have a0 := x3.c0
  have a1 := x3.c1
  have a2 := x3.c2
  have a3 := x3.c3
  have fz := x3.fz
  have hne := HM.out
  generalize b.take 8 = L at *
  have hn1 : (L == [115, 116, 101, 97, 100, 105, 110, 103]) = false := by simpa using hne
  clear x2 b2 bw2 l2 hg12 X1 x3
  go_wp2_with fail
  have ts := X3.out.1.set (.int .i64 0) (.int .i64 0) (.int .u64 0) (.int .u64 0)
  refine bodyPost_ret (v := .tuple #[hv 0 0 0 0, .bool false]) ?_ rfl ?_
  · simp [results, go_sem, ts.c0, ts.c1, ts.c2, ts.c3]
  · exact ⟨rfl, below_set4 X3.out.2.1 (by have := X3.out.2.2; omega) _ _ _ _⟩
/-- What 32 bytes tell, as a value. -/
def hV (b : List UInt8) : Value := if M.isH b = true then hv (M.hP b : Nat) (M.hK b : Nat) (M.hO b : Nat) (M.hN b : Nat) else hv 0 0 0 0
theorem parse_any (A : Option Addr) (c : Nat) (b : List UInt8) (hb : b.length = 32) (hc : 32 ≤ c) (w : World) (hl : Lies w A (u8s b)) :
    Calls Try.prog 42 #[.slice A 32 c] w fun e w' => e = .returned (.tuple #[hV b, .bool (M.isH b)]) ∧ Below w.heap.size w w' := by
  by_cases hm : b.take 8 = M.mark
  · have h := parse_mark A c b hb hc (M.hP b) (M.hK b) (M.hO b) (M.hN b) ⟨rfl, rfl, rfl, rfl⟩ hm w hl _ rfl
    have e : M.isH b = M.right (M.hP b : Nat) (M.hK b : Nat) := by unfold M.isH; simp [hm]
    unfold hV
    rw [e]
    exact h
  · have h := parse_other A c b hb hc hm w hl
    have e : M.isH b = false := M.isH_other hm
    unfold hV
    rw [e, if_neg (by decide)]
    exact h
end Go.Proofs.Ytmagdhcpbofkbaa
/-
  find, Write, Read, Link and Clear of a space that a call made.
-/
namespace Go.Proofs.Ytmagdhcpbofkbaa
open Go.ChangeShapes Go.WideShapes Go.ChangeAt Go.RowKit
set_option linter.unusedVariables false
set_option maxRecDepth 20000

theorem touch_head (a : Nat) : M.touched (a * 4096) 32 = 1 := by rw [M.touched_one]; omega
section
variable {w0 w w' : World} {s P T : Nat} {f : Nat → UInt8} {O O' : Nat → Prop}
theorem Kept.new {w : World} (O : Nat → Prop) (o : Obj) : Kept w (w.alloc o) O := (Kept.refl w O).alloc o
set_option maxHeartbeats 4000000 in
theorem find_out (h : At w0 w s P T f O) (x : Int) (hx : pin P x = false) :
    Calls Try.prog 28 #[.pointer (some ⟨s, 0, none⟩), .int .i64 x] w fun e w' => e = .returned (.tuple #[.int .u64 0, hv 0 0 0 0, .int .i64 3]) ∧ Below w.heap.size w w' := by
  have x1 := Box4.new w 41 (.int .i64 0) (.int .i64 0) (.int .u64 0) (.int .u64 0)
  have b1 := below_new w (.cells #[.int .i64 0, .int .i64 0, .int .u64 0, .int .u64 0] 41)
  have hpl := place_no (h.alloc (.cells #[.int .i64 0, .int .i64 0, .int .u64 0, .int .u64 0] 41)).sp x hx
  have HP := Lib.hid hpl
  clear hpl hx h
  go_enter Try.func28, Try.ntmps28
  go_wp2_with fail
  refine HP.out.mono ?_
  rintro e w' ⟨rfl, rfl⟩
  clear HP
  generalize w.alloc (.cells #[.int .i64 0, .int .i64 0, .int .u64 0, .int .u64 0] 41) = w1 at *
  obtain ⟨g, hg⟩ : ∃ g, g = w.heap.size := ⟨_, rfl⟩
  rw [← hg] at x1 ⊢
  have X1 := Lib.hid (And.intro x1 (And.intro b1 hg))
  have a0 := x1.c0
  have a1 := x1.c1
  have a2 := x1.c2
  have a3 := x1.c3
  have fz := x1.fz
  clear x1 b1 hg
  go_wp2_with fail
  have ts := X1.out.1.set (.int .i64 0) (.int .i64 0) (.int .u64 0) (.int .u64 0)
  refine bodyPost_ret (v := .tuple #[.int .u64 0, hv 0 0 0 0, .int .i64 3]) ?_ rfl ?_
  · simp [results, go_sem, ts.c0, ts.c1, ts.c2, ts.c3]
  · exact ⟨rfl, below_set4 X1.out.2.1 (by have := X1.out.2.2; omega) _ _ _ _⟩
theorem find_nil (w : World) :
    Calls Try.prog 28 #[.pointer none, .int .i64 0] w fun e w' => e = .returned (.tuple #[.int .u64 0, hv 0 0 0 0, .int .i64 3]) ∧ Below w.heap.size w w' := by
  have x1 := Box4.new w 41 (.int .i64 0) (.int .i64 0) (.int .u64 0) (.int .u64 0)
  have b1 := below_new w (.cells #[.int .i64 0, .int .i64 0, .int .u64 0, .int .u64 0] 41)
  go_enter Try.func28, Try.ntmps28
  go_wp2_with fail
  refine (place_nil _).mono ?_
  rintro e w' ⟨rfl, rfl⟩
  generalize w.alloc (.cells #[.int .i64 0, .int .i64 0, .int .u64 0, .int .u64 0] 41) = w1 at *
  obtain ⟨g, hg⟩ : ∃ g, g = w.heap.size := ⟨_, rfl⟩
  rw [← hg] at x1 ⊢
  have X1 := Lib.hid (And.intro x1 (And.intro b1 hg))
  have a0 := x1.c0
  have a1 := x1.c1
  have a2 := x1.c2
  have a3 := x1.c3
  have fz := x1.fz
  clear x1 b1 hg
  go_wp2_with fail
  have ts := X1.out.1.set (.int .i64 0) (.int .i64 0) (.int .u64 0) (.int .u64 0)
  refine bodyPost_ret (v := .tuple #[.int .u64 0, hv 0 0 0 0, .int .i64 3]) ?_ rfl ?_
  · simp [results, go_sem, ts.c0, ts.c1, ts.c2, ts.c3]
  · exact ⟨rfl, below_set4 X1.out.2.1 (by have := X1.out.2.2; omega) _ _ _ _⟩
theorem At.set4 (b1 : At w0 w' s P T f O) (k : Kept w w' O) {g : Nat} (hno : ¬ O g) (hg0 : w0.heap.size ≤ g) (hg : w.heap.size ≤ g) (u0 u1 u2 u3 : Value) :
    At w0 ((((w'.setCell ⟨g, 0, none⟩ u0).setCell ⟨g, 1, none⟩ u1).setCell ⟨g, 2, none⟩ u2).setCell ⟨g, 3, none⟩ u3) s P T f O ∧ Kept w ((((w'.setCell ⟨g, 0, none⟩ u0).setCell ⟨g, 1, none⟩ u1).setCell ⟨g, 2, none⟩ u2).setCell ⟨g, 3, none⟩ u3) O := by
  have kk := kept_set4 w' g u0 u1 u2 u3
  exact ⟨b1.other kk (fun b hb e => hno (e ▸ hb)) (b1.bel.trans (kk.below b1.bel.size (fun i e => by omega))), k.trans kk (fun i hi e => by omega)⟩
set_option maxHeartbeats 8000000 in
theorem find_in (h : At w0 w s P T f O) (a : Nat) (ha : a < P) (q : Nat) (hq : q = a * 4096) (hT : T ≤ 900000000000) (R : Bool) (p k o n : Nat) (hR : R = M.isH (M.rd f q 32)) (hV' : hV (M.rd f q 32) = hv p k o n) :
    Calls Try.prog 28 #[.pointer (some ⟨s, 0, none⟩), .int .i64 (a : Int)] w fun e w' => e = .returned (.tuple #[.int .u64 (if R = true then (q : Int) else 0), if R = true then hv p k o n else hv 0 0 0 0, .int .i64 (if R = true then 0 else 5)]) ∧ At w0 w' s P (T + 1) f O ∧ Kept w w' O := by
  have hP := h.sp.top
  have x1 := Box4.new w 41 (.int .i64 0) (.int .i64 0) (.int .u64 0) (.int .u64 0)
  have k1 := Kept.new (w := w) O (.cells #[.int .i64 0, .int .i64 0, .int .u64 0, .int .u64 0] 41)
  have h1 := h.alloc (.cells #[.int .i64 0, .int .i64 0, .int .u64 0, .int .u64 0] 41)
  have hno : ¬ O w.heap.size := fun e => by have := h.sp.lt e; omega
  have HH := Lib.hid (And.intro h (And.intro hR (And.intro hV' (And.intro hT (And.intro hq ha)))))
  have hpl := place_yes h1.sp a ha q hq
  have HP := Lib.hid hpl
  have H1 := Lib.hid h1
  have K1 := Lib.hid k1
  clear hpl h h1 k1 hR hV' hT hq ha hP
  go_enter Try.func28, Try.ntmps28
  go_wp2_with fail
  refine HP.out.mono ?_
  rintro e w' ⟨rfl, rfl⟩
  clear HP
  generalize w.alloc (.cells #[.int .i64 0, .int .i64 0, .int .u64 0, .int .u64 0] 41) = w1 at *
  obtain ⟨g, hg⟩ : ∃ g, g = w.heap.size := ⟨_, rfl⟩
  rw [← hg] at x1 hno ⊢
  have X1 := Lib.hid (And.intro x1 (And.intro hno hg))
  clear x1 hg hno
  go_wp2_with fail
  refine (at_load H1.out q 32 (by have := HH.out.2.2.2.2; omega) (by omega) (by have := HH.out.2.2.2.1; omega)).mono ?_
  rintro e w2 ⟨gl, rfl, A2, L2, k2, _, _⟩
  have et : M.touched q 32 = 1 := by rw [HH.out.2.2.2.2.1]; exact touch_head a
  rw [et] at A2
  have H2 := Lib.hid (show At w0 w2 s P (T + 1) f O ∧ Kept w w2 O ∧ Box4 w2 g _ _ _ _ ∧ Own w2 gl (M.rd f q 32) from ⟨A2, K1.out.trans k2 (fun _ _ e => e), X1.out.1.kept k2 X1.out.2.1, L2.own⟩)
  clear A2 L2 k2 et
  go_wp2_with fail
  refine (parse_any (some ⟨gl, 0, none⟩) 32 (M.rd f q 32) (M.rd_length _ _ _) (by omega) _ H2.out.2.2.2.lies).mono ?_
  rintro e w3 ⟨rfl, b3⟩
  rw [HH.out.2.2.1, ← HH.out.2.1]
  have H3 := Lib.hid (show At w0 w3 s P (T + 1) f O ∧ Kept w w3 O ∧ Box4 w3 g _ _ _ _ from ⟨H2.out.1.same b3, H2.out.2.1.trans (Kept.of_below b3 O) (fun _ _ e => e), H2.out.2.2.1.below b3⟩)
  clear b3 H2
  go_upto_region 8 with fail
  have x4 := Box4.new w3 41 (.int .i64 (p : Int)) (.int .i64 (k : Int)) (.int .u64 (o : Int)) (.int .u64 (n : Int))
  have b4 := below_new w3 (.cells #[.int .i64 (p : Int), .int .i64 (k : Int), .int .u64 (o : Int), .int .u64 (n : Int)] 41)
  generalize w3.alloc (.cells #[.int .i64 (p : Int), .int .i64 (k : Int), .int .u64 (o : Int), .int .u64 (n : Int)] 41) = w4 at *
  obtain ⟨g4, hg4⟩ : ∃ g4, g4 = w3.heap.size := ⟨_, rfl⟩
  rw [← hg4] at x4 ⊢
  have hgg : g < g4 := by rw [hg4]; exact H3.out.2.2.lt
  have x5 := H3.out.2.2.below b4
  have H4 := Lib.hid (show At w0 w4 s P (T + 1) f O ∧ Kept w w4 O ∧ Box4 w4 g _ _ _ _ from ⟨H3.out.1.same b4, H3.out.2.1.trans (Kept.of_below b4 O) (fun _ _ e => e), x5⟩)
  have a0 := x5.c0
  have a1 := x5.c1
  have a2 := x5.c2
  have a3 := x5.c3
  have fz := x5.fz
  have e0 := x4.c0
  have e1 := x4.c1
  have e2 := x4.c2
  have e3 := x4.c3
  clear x4 x5 b4 hg4 H3
  cases R with
  | true =>
    go_wp2_with fail
    go_region
    all_goals
      go_wp2_with fail
      have ts := H4.out.2.2.set (.int .i64 (p : Int)) (.int .i64 (k : Int)) (.int .u64 (o : Int)) (.int .u64 (n : Int))
      refine bodyPost_ret (v := .tuple #[.int .u64 (q : Int), hv p k o n, .int .i64 0]) ?_ rfl ?_
      · simp [results, go_sem, ts.c0, ts.c1, ts.c2, ts.c3]
      · have r := H4.out.1.set4 H4.out.2.1 X1.out.2.1 (by rw [X1.out.2.2]; exact HH.out.1.bel.size) (by rw [X1.out.2.2]; exact Nat.le_refl _) (.int .i64 (p : Int)) (.int .i64 (k : Int)) (.int .u64 (o : Int)) (.int .u64 (n : Int))
        exact ⟨rfl, r.1.drew, r.2.drew⟩
  | false =>
    go_wp2_with fail
    have ts := H4.out.2.2.set (.int .i64 0) (.int .i64 0) (.int .u64 0) (.int .u64 0)
    refine bodyPost_ret (v := .tuple #[.int .u64 0, hv 0 0 0 0, .int .i64 5]) ?_ rfl ?_
    · simp [results, go_sem, ts.c0, ts.c1, ts.c2, ts.c3]
    · have r := H4.out.1.set4 H4.out.2.1 X1.out.2.1 (by rw [X1.out.2.2]; exact HH.out.1.bel.size) (by rw [X1.out.2.2]; exact Nat.le_refl _) (.int .i64 0) (.int .i64 0) (.int .u64 0) (.int .u64 0)
      exact ⟨rfl, r⟩

/-! What Read answers. -/
def rE (P : Nat) (f : Nat → UInt8) (x : Int) : Nat := if pin P x = true then (if M.isH (M.rd f (x.toNat * 4096) 32) = true then 0 else 5) else 3
def rV (P : Nat) (f : Nat → UInt8) (x : Int) : Value := if rE P f x = 0 then hV (M.rd f (x.toNat * 4096) 32) else hv 0 0 0 0
def rT (P : Nat) (x : Int) : Nat := if pin P x = true then 1 else 0
def rA (P : Nat) (f : Nat → UInt8) (x : Int) : Nat := if rE P f x = 0 then x.toNat * 4096 else 0
theorem rE_ok {P : Nat} {f : Nat → UInt8} {x : Int} (h : rE P f x = 0) : ∃ a : Nat, x = a ∧ a < P ∧ M.isH (M.rd f (a * 4096) 32) = true := by
  unfold rE at h
  by_cases h1 : pin P x = true
  · rw [if_pos h1] at h
    obtain ⟨a, rfl, ha⟩ := pin_yes h1
    by_cases h2 : M.isH (M.rd f (((a : Int)).toNat * 4096) 32) = true
    · exact ⟨a, rfl, ha, by simpa using h2⟩
    · rw [if_neg h2] at h; omega
  · rw [if_neg h1] at h; omega
theorem hV_hv (b : List UInt8) : ∃ p k o n : Nat, hV b = hv p k o n := by
  unfold hV
  by_cases h : M.isH b = true
  · exact ⟨_, _, _, _, by rw [if_pos h]⟩
  · exact ⟨0, 0, 0, 0, by rw [if_neg h]; rfl⟩
theorem rV_hv (P : Nat) (f : Nat → UInt8) (x : Int) : ∃ p k o n : Nat, rV P f x = hv p k o n := by
  unfold rV
  by_cases h : rE P f x = 0
  · rw [if_pos h]; exact hV_hv _
  · exact ⟨0, 0, 0, 0, by rw [if_neg h]; rfl⟩
theorem at_find (h : At w0 w s P T f O) (x : Int) (hT : T ≤ 900000000000) :
    Calls Try.prog 28 #[.pointer (some ⟨s, 0, none⟩), .int .i64 x] w fun e w' => e = .returned (.tuple #[.int .u64 (rA P f x : Nat), rV P f x, .int .i64 (rE P f x : Nat)]) ∧ At w0 w' s P (T + rT P x) f O ∧ Kept w w' O := by
  by_cases hx : pin P x = true
  · obtain ⟨a, rfl, ha⟩ := pin_yes hx
    obtain ⟨p, k, o, n, hv'⟩ := hV_hv (M.rd f (a * 4096) 32)
    have q := find_in h a ha (a * 4096) rfl hT _ p k o n rfl hv'
    have eT : rT P (a : Int) = 1 := by unfold rT; rw [if_pos hx]
    rw [eT]
    by_cases hR : M.isH (M.rd f (a * 4096) 32) = true
    · have eE : rE P f (a : Int) = 0 := by unfold rE; rw [if_pos hx, Int.toNat_natCast, if_pos hR]
      have eV : rV P f (a : Int) = hv p k o n := by unfold rV; rw [if_pos eE, Int.toNat_natCast, hv']
      have eA : rA P f (a : Int) = a * 4096 := by unfold rA; rw [if_pos eE, Int.toNat_natCast]
      rw [if_pos hR, if_pos hR, if_pos hR] at q
      rw [eE, eV, eA]
      exact q
    · have eE : rE P f (a : Int) = 5 := by unfold rE; rw [if_pos hx, Int.toNat_natCast, if_neg hR]
      have eV : rV P f (a : Int) = hv 0 0 0 0 := by unfold rV; rw [if_neg (by omega)]
      have eA : rA P f (a : Int) = 0 := by unfold rA; rw [if_neg (by omega)]
      rw [if_neg hR, if_neg hR, if_neg hR] at q
      rw [eE, eV, eA]
      exact q
  · have hx' : pin P x = false := by simpa using hx
    have eE : rE P f x = 3 := by unfold rE; rw [if_neg hx]
    have eV : rV P f x = hv 0 0 0 0 := by unfold rV; rw [if_neg (by omega)]
    have eA : rA P f x = 0 := by unfold rA; rw [if_neg (by omega)]
    have eT : rT P x = 0 := by unfold rT; rw [if_neg hx]
    rw [eE, eV, eA, eT]
    refine (find_out h x hx').mono ?_
    rintro e w' ⟨rfl, b⟩
    exact ⟨rfl, h.same b, Kept.of_below b _⟩
end
set_option maxHeartbeats 4000000 in
theorem read_go (v : Value) (x : Int) (w : World) (q er p k o n : Nat) (Q : World → Prop)
    (hf : ∀ w1, w1 = w.alloc (.cells #[.int .i64 0, .int .i64 0, .int .u64 0, .int .u64 0] 41) → Calls Try.prog 28 #[v, .int .i64 x] w1 fun e w' => e = .returned (.tuple #[.int .u64 (q : Int), hv p k o n, .int .i64 (er : Int)]) ∧ Box4 w' w.heap.size (.int .i64 0) (.int .i64 0) (.int .u64 0) (.int .u64 0) ∧
      ∀ o g u0 u1 u2 u3, g = w.heap.size → Q (((((w'.alloc o).setCell ⟨g, 0, none⟩ u0).setCell ⟨g, 1, none⟩ u1).setCell ⟨g, 2, none⟩ u2).setCell ⟨g, 3, none⟩ u3)) :
    Calls Try.prog 14 #[v, .int .i64 x] w fun e w' => e = .returned (.tuple #[hv p k o n, .int .i64 (er : Int)]) ∧ Q w' := by
  have HF := Lib.hid (hf _ rfl)
  clear hf
  go_enter Try.func14, Try.ntmps14
  go_wp2_with fail
  refine HF.out.mono ?_
  rintro e w2 ⟨rfl, x2, hq⟩
  obtain ⟨g, hg⟩ : ∃ g, g = w.heap.size := ⟨_, rfl⟩
  rw [← hg] at x2 ⊢
  have HQ := Lib.hid (And.intro hg hq)
  have X2 := Lib.hid x2
  clear hq hg HF x2
  go_upto_region 2 with fail
  have x3 := Box4.new w2 41 (.int .i64 (p : Int)) (.int .i64 (k : Int)) (.int .u64 (o : Int)) (.int .u64 (n : Int))
  have b3 := below_new w2 (.cells #[.int .i64 (p : Int), .int .i64 (k : Int), .int .u64 (o : Int), .int .u64 (n : Int)] 41)
  have hqq := HQ.out.2 (.cells #[.int .i64 (p : Int), .int .i64 (k : Int), .int .u64 (o : Int), .int .u64 (n : Int)] 41) g (.int .i64 (p : Int)) (.int .i64 (k : Int)) (.int .u64 (o : Int)) (.int .u64 (n : Int)) HQ.out.1
  have HQ2 := Lib.hid hqq
  have x4 := X2.out.below b3
  have hlt := X2.out.lt
  generalize w2.alloc (.cells #[.int .i64 (p : Int), .int .i64 (k : Int), .int .u64 (o : Int), .int .u64 (n : Int)] 41) = w3 at *
  generalize w2.heap.size = g7 at *
  have X4 := Lib.hid x4
  have a0 := x4.c0
  have a1 := x4.c1
  have a2 := x4.c2
  have a3 := x4.c3
  have fz := x4.fz
  have e0 := x3.c0
  have e1 := x3.c1
  have e2 := x3.c2
  have e3 := x3.c3
  clear x3 x4 b3 hqq HQ
  go_wp2_with fail
  have ts := X4.out.set (.int .i64 (p : Int)) (.int .i64 (k : Int)) (.int .u64 (o : Int)) (.int .u64 (n : Int))
  refine bodyPost_ret (v := .tuple #[hv p k o n, .int .i64 (er : Int)]) ?_ rfl ?_
  · simp [results, go_sem, ts.c0, ts.c1, ts.c2, ts.c3]
  · exact ⟨rfl, HQ2.out⟩
section
variable {w0 w w' : World} {s P T : Nat} {f : Nat → UInt8} {O O' : Nat → Prop}
theorem at_read (h : At w0 w s P T f O) (x : Int) (hT : T ≤ 900000000000) :
    Calls Try.prog 14 #[.pointer (some ⟨s, 0, none⟩), .int .i64 x] w fun e w' => e = .returned (.tuple #[rV P f x, .int .i64 (rE P f x : Nat)]) ∧ At w0 w' s P (T + rT P x) f O ∧ Kept w w' O := by
  obtain ⟨p, k, o, n, hv'⟩ := rV_hv P f x
  rw [hv']
  refine read_go _ x w (rA P f x) (rE P f x) p k o n (fun w' => At w0 w' s P (T + rT P x) f O ∧ Kept w w' O) ?_
  rintro w1 rfl
  have x1 := Box4.new w 41 (.int .i64 0) (.int .i64 0) (.int .u64 0) (.int .u64 0)
  have k1 := Kept.new (w := w) O (.cells #[.int .i64 0, .int .i64 0, .int .u64 0, .int .u64 0] 41)
  have hno : ¬ O w.heap.size := fun e => by have := h.sp.lt e; omega
  refine (at_find (h.alloc (.cells #[.int .i64 0, .int .i64 0, .int .u64 0, .int .u64 0] 41)) x hT).mono ?_
  rw [hv']
  rintro e w2 ⟨rfl, A2, k2⟩
  refine ⟨rfl, x1.kept k2 hno, fun o g u0 u1 u2 u3 hg => ?_⟩
  subst hg
  exact (A2.alloc o).set4 ((k1.trans k2 (fun _ _ e => e)).alloc o) hno h.bel.size (Nat.le_refl _) u0 u1 u2 u3
end
theorem read_nil (w : World) : Calls Try.prog 14 #[.pointer none, .int .i64 0] w fun e w' => e = .returned (.tuple #[hv 0 0 0 0, .int .i64 3]) ∧ Below w.heap.size w w' := by
  refine read_go _ 0 w 0 3 0 0 0 0 (fun w' => Below w.heap.size w w') ?_
  rintro w1 rfl
  have x1 := Box4.new w 41 (.int .i64 0) (.int .i64 0) (.int .u64 0) (.int .u64 0)
  have b1 := below_new w (.cells #[.int .i64 0, .int .i64 0, .int .u64 0, .int .u64 0] 41)
  refine (find_nil _).mono ?_
  rintro e w2 ⟨rfl, b2⟩
  refine ⟨rfl, x1.below b2, fun o g u0 u1 u2 u3 hg => ?_⟩
  have b3 := below_call b1 b2
  exact below_set4 (b3.alloc b3.size o) (by omega) u0 u1 u2 u3

/-! Link and Clear. -/
set_option maxHeartbeats 4000000 in
theorem link_go (v : Value) (x : Int) (m : Nat) (w : World) (q q' er p k o n : Nat) (hq : q' = q + 24) (hqb : q < 4294967296) (Q : World → Int → Prop)
    (hf : Calls Try.prog 28 #[v, .int .i64 x] w fun e w' => e = .returned (.tuple #[.int .u64 (q : Int), hv p k o n, .int .i64 (er : Int)]) ∧
      (er ≠ 0 → ∀ ob, Q (w'.alloc ob) er) ∧ (er = 0 → ∀ ob, Calls Try.prog 36 #[v, .int .u64 (q' : Int), .int .i64 8, .int .u64 (m : Int)] (w'.alloc ob) fun e w'' => ∃ r : Int, e = .returned (.int .i64 r) ∧ Q w'' r)) :
    Calls Try.prog 25 #[v, .int .i64 x, .int .u64 (m : Int)] w fun e w' => ∃ r : Int, e = .returned (.int .i64 r) ∧ Q w' r := by
  have HF := Lib.hid hf
  clear hf
  have hqq : IntKind.u64.wrap ((q : Int) + 24) = (q' : Int) := by rw [wrapU]; omega
  have HW := Lib.hid hqq
  clear hqq hq hqb
  go_enter Try.func25, Try.ntmps25
  go_wp2_with fail
  refine HF.out.mono ?_
  rintro e w2 ⟨rfl, h1, h2⟩
  have H2 := Lib.hid (And.intro h1 h2)
  clear h1 h2 HF
  by_cases he : er = 0
  · subst he
    go_upto_region 4 with fail
    have hc := H2.out.2 (by trivial) (.cells #[.int .i64 (p : Int), .int .i64 (k : Int), .int .u64 (o : Int), .int .u64 (n : Int)] 41)
    have HC := Lib.hid hc
    have hqq : True → IntKind.u64.wrap ((q : Int) + 24) = (q' : Int) := fun _ => HW.out
    clear hc
    go_wp2_with fail
    refine HC.out.mono ?_
    rintro e w3 ⟨r, rfl, hr⟩
    have HR := Lib.hid hr
    clear hr HC hqq
    go_wp2_with fail
    go_ret
    exact ⟨r, rfl, HR.out⟩
  · have hb : (((er : Nat) : Int) != 0) = true := by simpa using he
    have HE := Lib.hid he
    clear he
    go_wp2_with fail
    go_ret
    exact ⟨er, rfl, H2.out.1 HE.out _⟩
set_option maxHeartbeats 4000000 in
theorem clear_go (v : Value) (x : Int) (w : World) (q er p k o n : Nat) (Q : World → Int → Prop)
    (hf : Calls Try.prog 28 #[v, .int .i64 x] w fun e w' => e = .returned (.tuple #[.int .u64 (q : Int), hv p k o n, .int .i64 (er : Int)]) ∧
      (er ≠ 0 → ∀ ob, Q (w'.alloc ob) er) ∧ (er = 0 → ∀ ob, Calls Try.prog 55 #[v, .int .u64 (q : Int), .int .u64 32] (w'.alloc ob) fun e w'' => ∃ r : Int, e = .returned (.int .i64 r) ∧ Q w'' r)) :
    Calls Try.prog 37 #[v, .int .i64 x] w fun e w' => ∃ r : Int, e = .returned (.int .i64 r) ∧ Q w' r := by
  have HF := Lib.hid hf
  clear hf
  go_enter Try.func37, Try.ntmps37
  go_wp2_with fail
  refine HF.out.mono ?_
  rintro e w2 ⟨rfl, h1, h2⟩
  have H2 := Lib.hid (And.intro h1 h2)
  clear h1 h2 HF
  by_cases he : er = 0
  · subst he
    go_upto_region 4 with fail
    have hc := H2.out.2 (by trivial) (.cells #[.int .i64 (p : Int), .int .i64 (k : Int), .int .u64 (o : Int), .int .u64 (n : Int)] 41)
    have HC := Lib.hid hc
    clear hc
    go_wp2_with fail
    refine HC.out.mono ?_
    rintro e w3 ⟨r, rfl, hr⟩
    have HR := Lib.hid hr
    clear hr HC
    go_wp2_with fail
    go_ret
    exact ⟨r, rfl, HR.out⟩
  · have hb : (((er : Nat) : Int) != 0) = true := by simpa using he
    have HE := Lib.hid he
    clear he
    go_wp2_with fail
    go_ret
    exact ⟨er, rfl, H2.out.1 HE.out _⟩
end Go.Proofs.Ytmagdhcpbofkbaa
/-
  Write, Link and Clear of a space that a call made, of any page.
-/
namespace Go.Proofs.Ytmagdhcpbofkbaa
open Go.ChangeShapes Go.WideShapes Go.ChangeAt Go.RowKit
set_option linter.unusedVariables false
set_option maxRecDepth 20000

section
variable {w0 w w' : World} {s P T : Nat} {f : Nat → UInt8} {O O' : Nat → Prop}
theorem At.rewid {w1 w2 : World} (h : At w0 w s P T f O) (k1 : Kept w w1 O) {T' : Nat} {f' : Nat → UInt8} (h2 : At w0 w2 s P T' f' (Wid O w1 w2)) (k2 : Kept w1 w2 O) : At w0 w2 s P T' f' (Wid O w w2) ∧ Kept w w2 O := by
  have hz := k1.size
  exact ⟨h2.mono (fun b hb => hb.imp id (fun e => ⟨by omega, e.2⟩)) (fun b hb => hb.elim (fun e => Nat.lt_of_lt_of_le (h.sp.lt e) (Nat.le_trans k1.size k2.size)) (fun e => e.2)) h.wid, k1.trans k2 (fun _ _ e => e)⟩
theorem At.towid {w1 : World} (h : At w0 w s P T f O) (k1 : Kept w w1 O) {T' : Nat} {f' : Nat → UInt8} (h2 : At w0 w1 s P T' f' O) : At w0 w1 s P T' f' (Wid O w w1) := h.widen h2.sp k1
theorem at_next (h : At w0 w s P T f O) (a m : Nat) (ha : a < P) (q : Nat) (hq : q = a * 4096 + 24) (hm : m < 18446744073709551616) (hT : T ≤ 900000000000) :
    Calls Try.prog 36 #[.pointer (some ⟨s, 0, none⟩), .int .u64 q, .int .i64 8, .int .u64 m] w fun e w' =>
      e = .returned (.int .i64 0) ∧ At w0 w' s P (T + 1) (M.wr f q (M.enc 8 m)) (Wid O w w') ∧ Kept w w' O := by
  have hP := h.sp.top
  have hd : q % 8 = 0 := by omega
  have g := at_cput h q m ((8 : Nat) : Int) (by omega) hm (by omega)
  have hE : gE P q ((8 : Nat) : Int) = 0 := gE_of (plB_nat (by omega) hd) (by rw [Int.toNat_natCast]; exact in_of (by omega) (by omega))
  unfold pF gT at g
  have ht : M.touched q 8 = 1 := by rw [M.touched_one]; omega
  rw [hE, if_pos rfl, if_pos rfl, Int.toNat_natCast, ht] at g
  exact g

/-! What Link and Clear answer: Read's error. -/
def kT (P : Nat) (f : Nat → UInt8) (x : Int) : Nat := rT P x + (if rE P f x = 0 then 1 else 0)
def kF (P : Nat) (f : Nat → UInt8) (x : Int) (m : Nat) : Nat → UInt8 := if rE P f x = 0 then M.wr f (x.toNat * 4096 + 24) (M.enc 8 m) else f
def cF (P : Nat) (f : Nat → UInt8) (x : Int) : Nat → UInt8 := if rE P f x = 0 then M.zr f (x.toNat * 4096) 32 else f
theorem rA_lt (P : Nat) (f : Nat → UInt8) (x : Int) (hP : P ≤ 1048576) : rA P f x < 4294967296 := by
  unfold rA
  by_cases h : rE P f x = 0
  · obtain ⟨a, rfl, ha, _⟩ := rE_ok h
    rw [if_pos h, Int.toNat_natCast]
    omega
  · rw [if_neg h]; omega
theorem rT_le (P : Nat) (x : Int) : rT P x ≤ 1 := by unfold rT; split <;> omega
theorem kT_le (P : Nat) (f : Nat → UInt8) (x : Int) : kT P f x ≤ 2 := by unfold kT; have := rT_le P x; split <;> omega
theorem at_link (h : At w0 w s P T f O) (x : Int) (m : Nat) (hm : m < 18446744073709551616) (hT : T ≤ 800000000000) :
    Calls Try.prog 25 #[.pointer (some ⟨s, 0, none⟩), .int .i64 x, .int .u64 (m : Int)] w fun e w' => e = .returned (.int .i64 (rE P f x : Nat)) ∧ At w0 w' s P (T + kT P f x) (kF P f x m) (Wid O w w') ∧ Kept w w' O := by
  have hP := h.sp.top
  have hrt := rT_le P x
  obtain ⟨p, k, o, n, hv'⟩ := rV_hv P f x
  refine (link_go _ x m w (rA P f x) (rA P f x + 24) (rE P f x) p k o n rfl (rA_lt P f x hP.2) (fun w' r => r = (rE P f x : Nat) ∧ At w0 w' s P (T + kT P f x) (kF P f x m) (Wid O w w') ∧ Kept w w' O) ?_).mono ?_
  · refine (at_find h x (by omega)).mono ?_
    rw [hv']
    rintro e w1 ⟨rfl, A1, k1⟩
    refine ⟨rfl, fun he ob => ?_, fun he ob => ?_⟩
    · have k2 := k1.alloc ob
      unfold kT kF
      rw [if_neg he, if_neg he, Nat.add_zero]
      exact ⟨rfl, h.towid k2 (A1.alloc ob), k2⟩
    · obtain ⟨a, rfl, ha, hb⟩ := rE_ok he
      have k2 := k1.alloc ob
      have eA : rA P f (a : Int) = a * 4096 := by unfold rA; rw [if_pos he, Int.toNat_natCast]
      refine (at_next (A1.alloc ob) a m ha (rA P f (a : Int) + 24) (by omega) hm (by omega)).mono ?_
      rintro e w2 ⟨rfl, A2, k3⟩
      refine ⟨0, rfl, by rw [he]; rfl, ?_⟩
      unfold kT kF
      rw [if_pos he, if_pos he, Int.toNat_natCast, ← eA, ← Nat.add_assoc]
      exact h.rewid k2 A2 k3
  · rintro e w' ⟨r, rfl, rfl, q⟩
    exact ⟨rfl, q⟩
theorem at_clear (h : At w0 w s P T f O) (x : Int) (hT : T ≤ 800000000000) :
    Calls Try.prog 37 #[.pointer (some ⟨s, 0, none⟩), .int .i64 x] w fun e w' => e = .returned (.int .i64 (rE P f x : Nat)) ∧ At w0 w' s P (T + kT P f x) (cF P f x) (Wid O w w') ∧ Kept w w' O := by
  have hP := h.sp.top
  have hrt := rT_le P x
  obtain ⟨p, k, o, n, hv'⟩ := rV_hv P f x
  refine (clear_go _ x w (rA P f x) (rE P f x) p k o n (fun w' r => r = (rE P f x : Nat) ∧ At w0 w' s P (T + kT P f x) (cF P f x) (Wid O w w') ∧ Kept w w' O) ?_).mono ?_
  · refine (at_find h x (by omega)).mono ?_
    rw [hv']
    rintro e w1 ⟨rfl, A1, k1⟩
    refine ⟨rfl, fun he ob => ?_, fun he ob => ?_⟩
    · have k2 := k1.alloc ob
      unfold kT cF
      rw [if_neg he, if_neg he, Nat.add_zero]
      exact ⟨rfl, h.towid k2 (A1.alloc ob), k2⟩
    · obtain ⟨a, rfl, ha, hb⟩ := rE_ok he
      have k2 := k1.alloc ob
      have eA : rA P f (a : Int) = a * 4096 := by unfold rA; rw [if_pos he, Int.toNat_natCast]
      refine (at_zero (A1.alloc ob) (rA P f (a : Int)) 32 (by omega) (by omega)).mono ?_
      rintro e w2 ⟨rfl, A2, k3⟩
      have k4 := k2.trans k3 (fun _ _ e => e)
      refine ⟨0, rfl, by rw [he]; rfl, ?_⟩
      unfold kT cF
      have ht := touch_head a
      rw [← eA] at ht
      rw [ht] at A2
      rw [if_pos he, if_pos he, Int.toNat_natCast, ← eA, ← Nat.add_assoc]
      exact ⟨h.towid k4 A2, k4⟩
  · rintro e w' ⟨r, rfl, rfl, q⟩
    exact ⟨rfl, q⟩
end
theorem link_nil (m : Nat) (w : World) : Calls Try.prog 25 #[.pointer none, .int .i64 0, .int .u64 (m : Int)] w fun e w' => e = .returned (.int .i64 3) ∧ Below w.heap.size w w' := by
  refine (link_go _ 0 m w 0 24 3 0 0 0 0 rfl (by omega) (fun w' r => r = 3 ∧ Below w.heap.size w w') ?_).mono ?_
  · refine (find_nil w).mono ?_
    rintro e w1 ⟨rfl, b1⟩
    exact ⟨rfl, fun _ ob => ⟨rfl, b1.alloc b1.size ob⟩, fun h => absurd h (by decide)⟩
  · rintro e w' ⟨r, rfl, rfl, q⟩
    exact ⟨rfl, q⟩
theorem clear_nil (w : World) : Calls Try.prog 37 #[.pointer none, .int .i64 0] w fun e w' => e = .returned (.int .i64 3) ∧ Below w.heap.size w w' := by
  refine (clear_go _ 0 w 0 3 0 0 0 0 (fun w' r => r = 3 ∧ Below w.heap.size w w') ?_).mono ?_
  · refine (find_nil w).mono ?_
    rintro e w1 ⟨rfl, b1⟩
    exact ⟨rfl, fun _ ob => ⟨rfl, b1.alloc b1.size ob⟩, fun h => absurd h (by decide)⟩
  · rintro e w' ⟨r, rfl, rfl, q⟩
    exact ⟨rfl, q⟩

/-! Write. -/
theorem write_arg (v : Value) (a p k : Int) (o n : Int) (hr : M.right p k = false) (w : World) :
    Calls Try.prog 35 #[v, .int .i64 a, hv p k o n] w fun e w' => e = .returned (.int .i64 1) ∧ Below w.heap.size w w' := by
  have b1 := below_new w (.cells #[.int .i64 p, .int .i64 k, .int .u64 o, .int .u64 n] 41)
  have HR := Lib.hid hr
  clear hr
  go_enter Try.func35, Try.ntmps35
  go_wp2_with fail
  refine (hright_any p k o n _).mono ?_
  rintro e w2 ⟨rfl, b2⟩
  rw [HR.out]
  have HB := Lib.hid (below_call b1 b2)
  clear b1 b2
  go_wp2_with fail
  go_ret
  exact ⟨rfl, HB.out⟩
set_option maxHeartbeats 4000000 in
theorem write_go (v : Value) (x p k : Int) (o n : Nat) (q er : Nat) (B : Bool) (hr : M.right p k = true) (ho : o < 18446744073709551616) (hn : n < 18446744073709551616) (w : World) (Q : World → Int → Prop)
    (hpl : ∀ w1, Below w.heap.size w w1 → Calls Try.prog 40 #[v, .int .i64 x] w1 fun e w' => e = .returned (.tuple #[.int .u64 (q : Int), .bool B]) ∧ w1 = w')
    (h3 : B = false → ∀ w1, Below w.heap.size w w1 → Q w1 3)
    (hst : B = true → ∀ w1 g, Below w.heap.size w w1 → Own w1 g (M.hd p.toNat k.toNat o n) → w.heap.size ≤ g → Calls Try.prog 52 #[v, .int .u64 (q : Int), .slice (some ⟨g, 0, none⟩) 32 32] w1 fun e w' => ∃ r : Int, e = .returned (.int .i64 r) ∧ Q w' r) :
    Calls Try.prog 35 #[v, .int .i64 x, hv p k o n] w fun e w' => ∃ r : Int, e = .returned (.int .i64 r) ∧ Q w' r := by
  have x1 := Box4.new w 41 (.int .i64 p) (.int .i64 k) (.int .u64 (o : Int)) (.int .u64 (n : Int))
  have b1 := below_new w (.cells #[.int .i64 p, .int .i64 k, .int .u64 (o : Int), .int .u64 (n : Int)] 41)
  have HH := Lib.hid (And.intro hpl (And.intro h3 (And.intro hst (And.intro hr (And.intro ho hn)))))
  clear hpl h3 hst hr ho hn
  go_enter Try.func35, Try.ntmps35
  go_wp2_with fail
  refine (hright_any p k o n _).mono ?_
  rintro e w2 ⟨rfl, b2⟩
  rw [HH.out.2.2.2.1]
  have x2 := x1.below b2
  have b3 := below_call b1 b2
  obtain ⟨g, hg⟩ : ∃ g, g = w.heap.size := ⟨_, rfl⟩
  rw [← hg] at x2 ⊢
  have H2 := Lib.hid (And.intro x2 (And.intro b3 hg))
  have a0 := x2.c0
  have a1 := x2.c1
  have a2 := x2.c2
  have a3 := x2.c3
  clear x1 x2 b1 b2 b3 hg
  go_wp2_with fail
  refine (HH.out.1 w2 H2.out.2.1).mono ?_
  rintro e w' ⟨rfl, rfl⟩
  cases B with
  | false =>
    go_wp2_with fail
    go_ret
    exact ⟨3, rfl, HH.out.2.1 (by trivial) _ H2.out.2.1⟩
  | true =>
    go_wp2_with fail
    refine (hbytes_int p k p.toNat k.toNat o n (by have := (M.right_iff p k).1 HH.out.2.2.2.1; omega) (by have := (M.right_iff p k).1 HH.out.2.2.2.1; omega) (by have := (M.right_iff p k).1 HH.out.2.2.2.1; omega) (by have := (M.right_iff p k).1 HH.out.2.2.2.1; omega) HH.out.2.2.2.2.1 HH.out.2.2.2.2.2 w2).mono ?_
    rintro e w3 ⟨gb, rfl, ob, b3, hgb, _⟩
    have hs := HH.out.2.2.1 (by trivial) w3 gb (below_call H2.out.2.1 b3) ob (by have := H2.out.2.1.size; omega)
    have HS := Lib.hid hs
    clear hs ob b3 hgb a0 a1 a2 a3
    go_wp2_with fail
    refine HS.out.mono ?_
    rintro e w4 ⟨r, rfl, hr⟩
    have HR := Lib.hid hr
    clear hr HS
    go_wp2_with fail
    go_ret
    exact ⟨r, rfl, HR.out⟩
def wE (P : Nat) (x p k : Int) : Nat := if M.right p k = true then (if pin P x = true then 0 else 3) else 1
def wT (P : Nat) (x p k : Int) : Nat := if wE P x p k = 0 then 1 else 0
def wF (P : Nat) (f : Nat → UInt8) (x p k : Int) (o n : Nat) : Nat → UInt8 := if wE P x p k = 0 then M.wr f (x.toNat * 4096) (M.hd p.toNat k.toNat o n) else f
section
variable {w0 w w' : World} {s P T : Nat} {f : Nat → UInt8} {O O' : Nat → Prop}
theorem at_write (h : At w0 w s P T f O) (x p k : Int) (o n : Nat) (ho : o < 18446744073709551616) (hn : n < 18446744073709551616) (hT : T ≤ 900000000000) :
    Calls Try.prog 35 #[.pointer (some ⟨s, 0, none⟩), .int .i64 x, hv p k o n] w fun e w' => e = .returned (.int .i64 (wE P x p k : Nat)) ∧ At w0 w' s P (T + wT P x p k) (wF P f x p k o n) (Wid O w w') ∧ Kept w w' O := by
  have hP := h.sp.top
  by_cases hr : M.right p k = true
  · by_cases hx : pin P x = true
    · obtain ⟨a, rfl, ha⟩ := pin_yes hx
      have eE : wE P (a : Int) p k = 0 := by unfold wE; rw [if_pos hr, if_pos hx]
      unfold wT wF
      rw [eE, if_pos rfl, if_pos rfl, Int.toNat_natCast]
      refine (write_go _ a p k o n (a * 4096) 0 true hr ho hn w (fun w' r => r = 0 ∧ At w0 w' s P (T + 1) (M.wr f (a * 4096) (M.hd p.toNat k.toNat o n)) (Wid O w w') ∧ Kept w w' O) (fun w1 b1 => place_yes (h.same b1).sp a ha _ rfl) (fun e => by cases e) (fun _ w1 g b1 ob hg => ?_)).mono ?_
      · have ht := touch_head a
        refine (at_store (h.same b1) (a * 4096) 32 32 (some ⟨g, 0, none⟩) (M.hd p.toNat k.toNat o n) (M.hd_length _ _ _ _).symm ob.lies (Nat.le_refl _) (fun _ ad e hO => ?_) (by omega) (by omega) (by omega)).mono ?_
        · injection e with e
          subst e
          have : g < w.heap.size := h.sp.lt hO
          omega
        · rintro e w2 ⟨rfl, A2, k2⟩
          rw [ht] at A2
          exact ⟨0, rfl, rfl, h.rewid (Kept.of_below b1 O) A2 k2⟩
      · rintro e w' ⟨r, rfl, rfl, q⟩
        exact ⟨rfl, q⟩
    · have hx' : pin P x = false := by simpa using hx
      have eE : wE P x p k = 3 := by unfold wE; rw [if_pos hr, if_neg hx]
      unfold wT wF
      rw [eE, if_neg (by omega), if_neg (by omega)]
      refine (write_go _ x p k o n 0 3 false hr ho hn w (fun w' r => r = 3 ∧ Below w.heap.size w w') (fun w1 b1 => place_no (h.same b1).sp x hx') (fun _ w1 b1 => ⟨rfl, b1⟩) (fun e => by cases e)).mono ?_
      rintro e w' ⟨r, rfl, rfl, b⟩
      exact ⟨rfl, h.widen_same b⟩
  · have hr' : M.right p k = false := by simpa using hr
    have eE : wE P x p k = 1 := by unfold wE; rw [if_neg hr]
    unfold wT wF
    rw [eE, if_neg (by omega), if_neg (by omega)]
    refine (write_arg _ x p k o n hr' w).mono ?_
    rintro e w' ⟨rfl, b⟩
    exact ⟨rfl, h.widen_same b⟩
end
theorem write_nil (p k : Int) (hr : M.right p k = true) (w : World) :
    Calls Try.prog 35 #[.pointer none, .int .i64 0, hv p k 0 0] w fun e w' => e = .returned (.int .i64 3) ∧ Below w.heap.size w w' := by
  refine (write_go (.pointer none) 0 p k 0 0 0 3 false hr (by omega) (by omega) w (fun w' r => r = 3 ∧ Below w.heap.size w w') (fun w1 b1 => place_nil w1) (fun _ w1 b1 => ⟨rfl, b1⟩) (fun e => by cases e)).mono ?_
  rintro e w' ⟨r, rfl, rfl, b⟩
  exact ⟨rfl, b⟩
end Go.Proofs.Ytmagdhcpbofkbaa
/-
  Calls of header within a space; the document's example.
-/
namespace Go.Proofs.Ytmagdhcpbofkbaa
open Go.ChangeShapes Go.WideShapes Go.ChangeAt Go.RowKit
set_option linter.unusedVariables false
set_option maxRecDepth 20000

section
variable {w0 w w' : World} {s P T : Nat} {f : Nat → UInt8} {O O' : Nat → Prop}
/-- A header that stands at a page. -/
structure Stands (f : Nat → UInt8) (a p k o n : Nat) : Prop where
  b : M.rd f (a * 4096) 32 = M.hd p k o n
  r : M.right (p : Nat) (k : Nat) = true
  o : o < 18446744073709551616
  n : n < 18446744073709551616
theorem Stands.isH {a p k o n : Nat} (h : Stands f a p k o n) : M.isH (M.rd f (a * 4096) 32) = true := by rw [h.b]; exact M.isH_hd _ _ _ _ h.r
theorem Stands.p {a p k o n : Nat} (h : Stands f a p k o n) : 1 ≤ p ∧ p ≤ 1048576 ∧ k ≤ 255 := by have := (M.right_iff _ _).1 h.r; omega
theorem Stands.v {a p k o n : Nat} (h : Stands f a p k o n) : hV (M.rd f (a * 4096) 32) = hv p k o n := by
  have := h.p
  unfold hV
  rw [if_pos h.isH, h.b, M.hP_hd _ _ _ _ (by omega), M.hK_hd _ _ _ _ (by omega), M.hO_hd _ _ _ _ h.o, M.hN_hd _ _ _ _ h.n]
theorem Stands.written (f : Nat → UInt8) (a p k o n : Nat) (hr : M.right (p : Nat) (k : Nat) = true) (ho : o < 18446744073709551616) (hn : n < 18446744073709551616) : Stands (M.wr f (a * 4096) (M.hd p k o n)) a p k o n :=
  ⟨M.rd_hd _ _ _ _ _ _, hr, ho, hn⟩
theorem Stands.linked {a p k o n : Nat} (h : Stands f a p k o n) (m : Nat) (hm : m < 18446744073709551616) : Stands (M.wr f (a * 4096 + 24) (M.enc 8 m)) a p k o m :=
  ⟨M.rd_link _ _ _ _ _ _ _ h.b, h.r, h.o, hm⟩
theorem Stands.apart {a p k o n : Nat} (h : Stands f a p k o n) (b : Nat) (l : List UInt8) (hd : a * 4096 + 32 ≤ b ∨ b + l.length ≤ a * 4096) : Stands (M.wr f b l) a p k o n :=
  ⟨by rw [M.rd_wr_apart _ _ _ _ _ hd]; exact h.b, h.r, h.o, h.n⟩
theorem rE_yes {a : Nat} (ha : a < P) (h : M.isH (M.rd f (a * 4096) 32) = true) : rE P f (a : Int) = 0 := by unfold rE; rw [if_pos (pin_nat ha), Int.toNat_natCast, if_pos h]
theorem rE_bad {a : Nat} (ha : a < P) (h : M.isH (M.rd f (a * 4096) 32) = false) : rE P f (a : Int) = 5 := by unfold rE; rw [if_pos (pin_nat ha), Int.toNat_natCast, h]; rfl
theorem rT_in {a : Nat} (ha : a < P) : rT P (a : Int) = 1 := by unfold rT; rw [if_pos (pin_nat ha)]
theorem read_hd (h : At w0 w s P T f O) (x : Int) (a p k o n : Nat) (hx : x = a) (ha : a < P) (hs : Stands f a p k o n) (hT : T ≤ 900000000000) :
    Calls Try.prog 14 #[.pointer (some ⟨s, 0, none⟩), .int .i64 x] w fun e w' => e = .returned (.tuple #[hv p k o n, .int .i64 0]) ∧ At w0 w' s P (T + 1) f O ∧ Kept w w' O := by
  subst hx
  have q := at_read h a hT
  have eE := rE_yes ha hs.isH
  unfold rV at q
  rw [eE, if_pos rfl, Int.toNat_natCast, hs.v, rT_in ha] at q
  exact q
theorem read_bad (h : At w0 w s P T f O) (x : Int) (a : Nat) (hx : x = a) (ha : a < P) (hs : M.isH (M.rd f (a * 4096) 32) = false) (hT : T ≤ 900000000000) :
    Calls Try.prog 14 #[.pointer (some ⟨s, 0, none⟩), .int .i64 x] w fun e w' => e = .returned (.tuple #[hv 0 0 0 0, .int .i64 5]) ∧ At w0 w' s P (T + 1) f O ∧ Kept w w' O := by
  subst hx
  have q := at_read h a hT
  have eE := rE_bad ha hs
  unfold rV at q
  rw [eE, if_neg (by omega), rT_in ha] at q
  exact q
theorem link_hd (h : At w0 w s P T f O) (x : Int) (a m : Nat) (hx : x = a) (ha : a < P) (hs : M.isH (M.rd f (a * 4096) 32) = true) (hm : m < 18446744073709551616) (hT : T ≤ 800000000000) :
    Calls Try.prog 25 #[.pointer (some ⟨s, 0, none⟩), .int .i64 x, .int .u64 (m : Int)] w fun e w' => e = .returned (.int .i64 0) ∧ At w0 w' s P (T + 2) (M.wr f (a * 4096 + 24) (M.enc 8 m)) (Wid O w w') ∧ Kept w w' O := by
  subst hx
  have q := at_link h a m hm hT
  have eE := rE_yes ha hs
  unfold kT kF at q
  rw [eE, if_pos rfl, if_pos rfl, Int.toNat_natCast, rT_in ha] at q
  exact q
theorem link_bad (h : At w0 w s P T f O) (x : Int) (a m : Nat) (hx : x = a) (ha : a < P) (hs : M.isH (M.rd f (a * 4096) 32) = false) (hm : m < 18446744073709551616) (hT : T ≤ 800000000000) :
    Calls Try.prog 25 #[.pointer (some ⟨s, 0, none⟩), .int .i64 x, .int .u64 (m : Int)] w fun e w' => e = .returned (.int .i64 5) ∧ At w0 w' s P (T + 1) f (Wid O w w') ∧ Kept w w' O := by
  subst hx
  have q := at_link h a m hm hT
  have eE := rE_bad ha hs
  unfold kT kF at q
  rw [eE, if_neg (by omega), if_neg (by omega), rT_in ha] at q
  exact q
theorem clear_hd (h : At w0 w s P T f O) (x : Int) (a : Nat) (hx : x = a) (ha : a < P) (hs : M.isH (M.rd f (a * 4096) 32) = true) (hT : T ≤ 800000000000) :
    Calls Try.prog 37 #[.pointer (some ⟨s, 0, none⟩), .int .i64 x] w fun e w' => e = .returned (.int .i64 0) ∧ At w0 w' s P (T + 2) (M.zr f (a * 4096) 32) (Wid O w w') ∧ Kept w w' O := by
  subst hx
  have q := at_clear h a hT
  have eE := rE_yes ha hs
  unfold kT cF at q
  rw [eE, if_pos rfl, if_pos rfl, Int.toNat_natCast, rT_in ha] at q
  exact q
theorem clear_bad (h : At w0 w s P T f O) (x : Int) (a : Nat) (hx : x = a) (ha : a < P) (hs : M.isH (M.rd f (a * 4096) 32) = false) (hT : T ≤ 800000000000) :
    Calls Try.prog 37 #[.pointer (some ⟨s, 0, none⟩), .int .i64 x] w fun e w' => e = .returned (.int .i64 5) ∧ At w0 w' s P (T + 1) f (Wid O w w') ∧ Kept w w' O := by
  subst hx
  have q := at_clear h a hT
  have eE := rE_bad ha hs
  unfold kT cF at q
  rw [eE, if_neg (by omega), if_neg (by omega), rT_in ha] at q
  exact q
theorem write_hd (h : At w0 w s P T f O) (x : Int) (a : Nat) (y z : Int) (p k o n : Nat) (hx : x = a) (ha : a < P) (hy : y = p) (hz : z = k) (hr : M.right (p : Nat) (k : Nat) = true) (ho : o < 18446744073709551616) (hn : n < 18446744073709551616) (hT : T ≤ 900000000000) :
    Calls Try.prog 35 #[.pointer (some ⟨s, 0, none⟩), .int .i64 x, hv y z o n] w fun e w' => e = .returned (.int .i64 0) ∧ At w0 w' s P (T + 1) (M.wr f (a * 4096) (M.hd p k o n)) (Wid O w w') ∧ Kept w w' O := by
  subst hx hy hz
  have q := at_write h a p k o n ho hn hT
  have eE : wE P (a : Int) p k = 0 := by unfold wE; rw [if_pos hr, if_pos (pin_nat ha)]
  unfold wT wF at q
  rw [eE, if_pos rfl, if_pos rfl, Int.toNat_natCast, Int.toNat_natCast, Int.toNat_natCast] at q
  exact q
theorem cleared_bad (f : Nat → UInt8) (a : Nat) : M.isH (M.rd (M.zr f (a * 4096) 32) (a * 4096) 32) = false := by rw [M.rd_clear]; exact M.isH_zero
end

end Go.Proofs.Ytmagdhcpbofkbaa
