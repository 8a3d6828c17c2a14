/-
  The document's Trim.
-/
import Derived.Test.YtmboibipabkhaaaGreatKxK0
import Derived.Test.YtmboibipabkhaaaGreatKxD10
namespace Go.Proofs.YtmboibipabkhaaaGreat
open Go.ChangeShapes Go.WideShapes Go.ChangeAt Go.RowKit Go.Deep
set_option linter.unusedVariables false
set_option maxRecDepth 20000
theorem box_two (w : World) (P : Nat) (Z : St) (d : Dc) :
  Bxn ((w.alloc (.cells (dcs P Z d).toArray 34)).alloc (.cells d0s.toArray 34)) w.heap.size (dcs P Z d) ∧ Bxn ((w.alloc (.cells (dcs P Z d).toArray 34)).alloc (.cells d0s.toArray 34)) (w.heap.size + 1) d0s ∧ Below w.heap.size w ((w.alloc (.cells (dcs P Z d).toArray 34)).alloc (.cells d0s.toArray 34)) := by
 have b1 := (Below.refl w.heap.size w).alloc (Nat.le_refl _) (.cells (dcs P Z d).toArray 34)
 have b2 := (Below.refl (w.alloc (.cells (dcs P Z d).toArray 34)).heap.size (w.alloc (.cells (dcs P Z d).toArray 34))).alloc (Nat.le_refl _) (.cells d0s.toArray 34)
 have x2 := Bxn.new (w.alloc (.cells (dcs P Z d).toArray 34)) 34 d0s
 rw [size1] at x2
 exact ⟨(Bxn.new w 34 (dcs P Z d)).below (by simp) b2, x2, below_call b1 b2⟩
structure TmL (w wr : World) (P m g1 g2 : Nat) (Z : St) (d : Dc) (AL : Option Addr) (j : Nat) (d' : Dc) : Prop where
 dc : Doc wr (Z.upto P j) d' m
 b1 : Bxn wr g1 (dcs P (Z.upto P j) d')
 b2 : Bxn wr g2 d0s
 rl : Runs wr AL (M.all Z.K)
 bel : Below w.heap.size w wr
 mv : ∀ x, x < w.heap.size → Dof Z d x → Dof (Z.upto P j) d' x
 o1 : Dof (Z.upto P j) d' g1
 o2 : Dof (Z.upto P j) d' g2
 a1 : Off g1 AL
 h1 : w.heap.size ≤ g1
 ne : g1 ≠ g2
section
variable {w wr w4 : World} {P m g1 g2 : Nat} {Z : St} {d : Dc} {AL : Option Addr} {j : Nat} {d' : Dc}
theorem TmL.below (h : TmL w wr P m g1 g2 Z d AL j d') (hb : Below wr.heap.size wr w4) : TmL w w4 P m g1 g2 Z d AL j d' :=
 ⟨h.dc.below hb, h.b1.below (by simp) hb, h.b2.below (by simp) hb, h.rl.below hb, below_call h.bel hb, h.mv, h.o1, h.o2, h.a1, h.h1, h.ne⟩
theorem TmL.give (h : TmL w wr P m g1 g2 Z d AL j d') (hj : j < (M.all Z.K).length) {w5 : World} {A' : Option Addr} {z' c' : Nat} (hz : z' = (gvL (Z.upto P j).l P (M.all Z.K)[j].p (M.all Z.K)[j].n).length) (hr : Runs w5 A' (gvL (Z.upto P j).l P (M.all Z.K)[j].p (M.all Z.K)[j].n)) (hb : Below wr.heap.size wr w5) (hF : A' = d'.Al ∧ gvL (Z.upto P j).l P (M.all Z.K)[j].p (M.all Z.K)[j].n = (Z.upto P j).l ∨ FreshR wr.heap.size A') :
  TmL w (((w5.setCell ⟨g1, 3, none⟩ (.int .i64 (P : Int))).setCell ⟨g1, 4, none⟩ (.slice A' z' c')).setCell ⟨g1, 5, none⟩ (.int .i64 (gvT (Z.upto P j).l P (M.all Z.K)[j].p (M.all Z.K)[j].n (Z.upto P j).T))) P m g1 g2 Z d AL (j + 1) { d' with Al := A', z := z', cl := c' } := by
 have hp := h.dc.pages (T' := gvT (Z.upto P j).l P (M.all Z.K)[j].p (M.all Z.K)[j].n (Z.upto P j).T) (c' := c') hz hr hb hF
 have h5 := h.below hb
 have e := St.upto_succ P Z j hj
 rw [← e] at hp
 have k := set3_kept w5 g1 3 4 5 (.int .i64 (P : Int)) (.slice A' z' c') (.int .i64 (gvT (Z.upto P j).l P (M.all Z.K)[j].p (M.all Z.K)[j].n (Z.upto P j).T))
 have l1 := h.b1.lt (by simp)
 have l2 := h.b2.lt (by simp)
 have o1 := hp.2 g1 l1 h.o1
 have o2 := hp.2 g2 l2 h.o2
 have y := set3_at h5.b1 (.int .i64 (P : Int)) (.slice A' z' c') (.int .i64 (gvT (Z.upto P j).l P (M.all Z.K)[j].p (M.all Z.K)[j].n (Z.upto P j).T))
 refine ⟨hp.1.kept' k (fun x e => by subst e; exact o1), ?_, h5.b2.kept (by simp) k (fun e => h.ne e.symm), h5.rl.besides k (fun a e q => h.a1 a e q), below_kept h5.bel k h.h1, fun x hx ho => hp.2 x (Nat.lt_of_lt_of_le hx h.bel.size) (h.mv x hx ho), o1, o2, h.a1, h.h1, h.ne⟩
 rw [e] at *
 exact y
end
namespace M
theorem filter_lt_succ (l : List R) (k : Nat) : (l.filter fun r => decide (0 ≤ r.p ∧ r.p < ((k + 1 : Nat) : Int))).length = (l.filter fun r => decide (0 ≤ r.p ∧ r.p < (k : Int))).length + (l.filter fun r => r.p == (k : Int)).length := by
 induction l with
 | nil => rfl
 | cons r t ih =>
  rw [List.filter_cons, List.filter_cons, List.filter_cons]
  by_cases h1 : 0 ≤ r.p ∧ r.p < (k : Int)
  ·rw [if_pos (by simp; omega), if_pos (by simp; omega), if_neg (by simp; omega), List.length_cons, List.length_cons, ih]
   omega
  ·by_cases h2 : r.p = (k : Int)
   ·rw [if_pos (by simp; omega), if_neg (by simp; omega), if_pos (by simp; omega), List.length_cons, List.length_cons, ih]
    omega
   ·rw [if_neg (by simp; omega), if_neg (by simp; omega), if_neg (by simp; omega), ih]
theorem allTo_sel_length (l : List R) : ∀ k : Nat, (allTo (sel l) k).length = (l.filter fun r => decide (0 ≤ r.p ∧ r.p < (k : Int))).length := by
 intro k
 induction k with
 | zero =>
  rw [show (l.filter fun r => decide (0 ≤ r.p ∧ r.p < ((0 : Nat) : Int))) = [] from List.filter_eq_nil_iff.2 (fun r _ => by simp <;> omega)]
  rfl
 | succ k ih =>
  rw [filter_lt_succ, ← ih]
  simp [allTo, rows, sel]
theorem total_few : ∀ (L : List R), (∀ r ∈ L, 0 ≤ r.n ∧ r.n ≤ 1048576) → 0 ≤ total L ∧ total L ≤ 1048576 * (L.length : Int)
 | [], _ => by simp [total]
 | r :: t, h => by
  have ih := total_few t (fun x hx => h x (List.mem_cons_of_mem _ hx))
  have := h r List.mem_cons_self
  rw [List.length_cons, show total (r :: t) = r.n + total t from rfl]
  omega
theorem sel_length {l : List R} (h : Good (sel l)) : (all (sel l)).length = l.length := by
 have := allTo_sel_length l 7
 rw [show (l.filter fun r => decide (0 ≤ r.p ∧ r.p < ((7 : Nat) : Int))) = l from List.filter_eq_self.2 (fun r hr => by have := h.mem hr; simpa using this)] at this
 exact this
end M
theorem runs_off {w : World} {A : Option Addr} {l : List M.R} (h : Runs w A l) (hl : l ≠ []) {x : Nat} (hx : w.heap.size ≤ x) : Off x A := fun a e e2 => by
 obtain ⟨bl, o, e3, hc⟩ := h (List.length_pos_iff.2 hl)
 rw [e] at e3
 cases e3
 have := lt_of_cell (hc 0 (List.length_pos_iff.2 hl)).1
 simp only at this e2
 omega
theorem Doc.lk {w : World} {Z : St} {d : Dc} {m : Nat} (h : Doc w Z d m) (hg : M.Good Z.K) : d.zk = (M.all Z.K).length ∧ d.zk ≤ 28 := by
 have e : (M.all Z.K).length = d.kl.length := by rw [← h.sel]; exact M.sel_length (by rw [h.sel]; exact hg)
 have := M.all_length hg
 exact ⟨h.kz.trans e.symm, by rw [h.kz, ← e]; exact this⟩
section
variable {w : World} {P m k : Nat} {Z : St} {d : Dc}
set_option maxHeartbeats 8000000 in
theorem rctrim10 (h : Doc w Z d m) (hP1 : 1 ≤ P) (hP2 : P ≤ 1048576) (hg : M.Good Z.K) (hF : Fit P Z.l Z.T k) (hk : k ≤ 80000) (hL : Z.l.length + (M.all Z.K).length ≤ 100) (hK : ∀ r ∈ M.all Z.K, 0 ≤ r.p ∧ 1 ≤ r.n ∧ r.p + r.n ≤ P) :
  Calls Tryz.prog 11 #[dv P Z d] w (DGot w P Z d (Z.trim P) m fun v => .tuple #[v, .int .i64 (M.sum Z.K)]) := by
 have hn28 := M.all_length hg
 have HG := Lib.hid (And.intro hP1 (And.intro hP2 (And.intro hF (And.intro hk (And.intro hL (And.intro hK hn28))))))
 have H := Lib.hid h
 obtain ⟨w1, hw1⟩ : ∃ w1, w1 = (w.alloc (.cells (dcs P Z d).toArray 34)).alloc (.cells d0s.toArray 34) := ⟨_, rfl⟩
 obtain ⟨g1, hg1⟩ : ∃ g, g = w.heap.size := ⟨_, rfl⟩
 obtain ⟨g2, hg2⟩ : ∃ g, g = w.heap.size + 1 := ⟨_, rfl⟩
 have HT := Lib.hid (show Bxn w1 g1 (dcs P Z d) ∧ Bxn w1 g2 d0s ∧ Below w.heap.size w w1 by rw [hw1, hg1, hg2]; exact box_two w P Z d)
 have c6 := HT.out.1.cs 6 _ rfl
 have HN := Lib.hid (And.intro hg1 hg2)
 clear h hP1 hP2 hF hk hL hK
 go_enter Tryz.func11, Tryz.ntmps11
 go_upto_region 1 with fail
 rw [show (w.alloc (.cells #[.int .i64 (P : Int), .slice d.A d.n d.c, .int .i64 (Z.u : Int), .int .i64 (P : Int), .slice d.Al d.z d.cl, .int .i64 Z.T, .slice d.Ak d.zk d.ck] 34)).alloc (.cells #[.int .i64 0, .slice none 0 0, .int .i64 0, .int .i64 0, .slice none 0 0, .int .i64 0, .slice none 0 0] 34) = w1 from hw1.symm, ← hg2, ← hg1]
 clear hw1 hg1 hg2
 go_wp2_with fail
 have D1 := H.out.below HT.out.2.2
 have HD1 := Lib.hid D1
 refine (rfall_any w1 d.Ak d.kl d.zk d.ck D1.kz D1.kept (by have := H.out.lk hg; omega) (by rw [D1.sel]; exact hg)).mono ?_
 rintro e w2 ⟨AL, zl, cl, rfl, hz, hR, hb, hA⟩
 rw [D1.sel] at hz hR
 have T0 := Lib.hid (show TmL w w2 P m g1 g2 Z d AL 0 d from by
  have l1 := HT.out.1.lt (by simp)
  refine ⟨?_, ?_, HT.out.2.1.below (by simp) hb, hR, below_call HT.out.2.2 hb, fun x hx ho => ?_, ?_, ?_, fun a e e2 => ?_, by have := HN.out.1; omega, by have := HN.out; omega⟩
  ·rw [St.upto_zero]; exact D1.below hb
  ·rw [St.upto_zero]; exact HT.out.1.below (by simp) hb
  ·rw [St.upto_zero]; exact ho
  ·rw [St.upto_zero]; exact H.out.fresh (by have := HN.out.1; omega)
  ·rw [St.upto_zero]; exact H.out.fresh (by have := HN.out.2; omega)
  ·have := hA a e
   omega)
 have HZ := Lib.hid hz
 clear hz hR hb hA HT D1 HD1
 go_wp2_with fail
 go_loopw [5, 6] (fun n i wr => ∃ (j : Nat) (d' : Dc), j ≤ zl ∧ n = .int .i64 (M.total ((M.all Z.K).take j)) ∧ i = .int .i64 (j : Int) ∧ Hid (TmL w wr P m g1 g2 Z d AL j d')) (fun n i _ => zl - (intOf i).toNat)
 case atStart => exact ⟨0, d, by omega, rfl, rfl, T0⟩
 case round =>
  clear T0 c6
  obtain ⟨j, d', hj, rfl, rfl, HI⟩ := hrel
  by_cases hlt : j < zl
  ·have hjl : j < (M.all Z.K).length := by have := HZ.out; omega
   have hz100 : zl ≤ 28 := by have := HZ.out; have := HG.out.2.2.2.2.2.2; omega
   obtain ⟨bl, o, hAe, hc⟩ := HI.out.rl (by omega)
   have d0 := (hc j hjl).1
   have d1 := (hc j hjl).2
   have hp0 := HG.out.2.2.2.2.2.1 _ (List.getElem_mem hjl)
   have GV := Lib.hid (show ∀ (w5 : World) (A' : Option Addr) (z' c' : Nat), z' = (gvL (Z.upto P j).l P (M.all Z.K)[j].p (M.all Z.K)[j].n).length → Runs w5 A' (gvL (Z.upto P j).l P (M.all Z.K)[j].p (M.all Z.K)[j].n) → Below wr.heap.size wr w5 → (A' = d'.Al ∧ gvL (Z.upto P j).l P (M.all Z.K)[j].p (M.all Z.K)[j].n = (Z.upto P j).l ∨ FreshR wr.heap.size A') → TmL w (((w5.setCell ⟨g1, 3, none⟩ (.int .i64 (P : Int))).setCell ⟨g1, 4, none⟩ (.slice A' z' c')).setCell ⟨g1, 5, none⟩ (.int .i64 (gvT (Z.upto P j).l P (M.all Z.K)[j].p (M.all Z.K)[j].n (Z.upto P j).T))) P m g1 g2 Z d AL (j + 1) { d' with Al := A', z := z', cl := c' } from fun w5 A' z' c' h1 h2 h3 h4 => HI.out.give hjl h1 h2 h3 h4)
   have TS := Lib.hid (M.total_take_succ (M.all Z.K) j hjl)
   have FT := Lib.hid (show Fit P (Z.upto P j).l (Z.upto P j).T (k + j) ∧ (Z.upto P j).l.length ≤ 100 from by
    have f := giveAll_fit (by omega) (by have := HG.out.2.1; omega) ((M.all Z.K).take j) Z.l Z.T k HG.out.2.2.1
    have g := giveAll_length (P := P) ((M.all Z.K).take j) Z.l Z.T
    rw [List.length_take, Nat.min_eq_left (by omega)] at f g
    exact ⟨f, by have := HG.out.2.2.2.2.1; show (giveAll P ((M.all Z.K).take j) Z.l Z.T).1.length ≤ 100; omega⟩)
   have TB := Lib.hid (show 0 ≤ M.total ((M.all Z.K).take j) ∧ M.total ((M.all Z.K).take j) ≤ 1048576 * (28 : Int) from by
    have t := M.total_few ((M.all Z.K).take j) (fun r hr => by have := HG.out.2.2.2.2.2.1 r (List.mem_of_mem_take hr); have := HG.out.2.1; omega)
    have l := List.length_take (l := M.all Z.K) (i := j)
    have := HG.out.2.2.2.2.2.2
    omega)
   generalize hpe : (M.all Z.K)[j].p = p at *
   generalize hne : (M.all Z.K)[j].n = n at *
   have HE := Lib.hid hne
   clear hpe hne
   generalize M.total ((M.all Z.K).take j) = S at *
   subst hAe
   have q3 := HI.out.b1.cs 3 _ rfl
   have q4 := HI.out.b1.cs 4 _ rfl
   have q5 := HI.out.b1.cs 5 _ rfl
   have HP := Lib.hid hp0
   have HS := Lib.hid (show ∀ W, Below wr.heap.size wr W → (W.cell? ⟨g1, 3, none⟩ = some (.int .i64 (P : Int)) ∧ W.cell? ⟨g1, 4, none⟩ = some (.slice d'.Al d'.z d'.cl) ∧ W.cell? ⟨g1, 5, none⟩ = some (.int .i64 (Z.upto P j).T)) ∧ W.cell? ⟨bl, o + j * 2, none⟩ = some (.int .i64 p) ∧ W.cell? ⟨bl, o + j * 2 + 1, none⟩ = some (.int .i64 n) from fun W hW =>
    ⟨⟨(hW.cell (lt_of_cell q3)).trans q3, (hW.cell (lt_of_cell q4)).trans q4, (hW.cell (lt_of_cell q5)).trans q5⟩, (hW.cell (lt_of_cell d0)).trans d0, (hW.cell (lt_of_cell d1)).trans d1⟩)
   clear hc hp0 q3 q4 q5 d0 d1
   go_upto_region 6 with fail
   refine wp_region_noPanic ?_
   refine wp_region_held_drew (S := fun W => (W.cell? ⟨g1, 3, none⟩ = some (.int .i64 (P : Int)) ∧ W.cell? ⟨g1, 4, none⟩ = some (.slice d'.Al d'.z d'.cl) ∧ W.cell? ⟨g1, 5, none⟩ = some (.int .i64 (Z.upto P j).T)) ∧ W.cell? ⟨bl, o + j * 2, none⟩ = some (.int .i64 p) ∧ W.cell? ⟨bl, o + j * 2 + 1, none⟩ = some (.int .i64 n)) (by kernel_rfl) (HS.out _ (Below.refl _ _).drew) (fun hHeld => ?_)
   refine tkA 0 (some 19) (Op.fieldAddr 34 (Operand.tmp 1) 1) 0 (v := ?_) rfl (by kernel_rfl) ?_ ‹_› ?_
   rotate_left
   ·(intro w h; (try dsimp only at h); go_simp) <;> with_reducible rfl
   (try simp only [Act.put, yI, yZ, yS])
   refine tkA 1 (some 20) (Op.load 31 (Operand.tmp 19)) 31 (v := ?_) rfl (by kernel_rfl) ?_ ‹_› ?_
   rotate_left
   ·(intro w h; (try dsimp only at h); go_simp) <;> with_reducible rfl
   (try simp only [Act.put, yI, yZ, yS])
   refine tkA 2 (some 21) (Op.move (Operand.tmp 4)) 29 (v := ?_) rfl (by kernel_rfl) ?_ ‹_› ?_
   rotate_left
   ·(intro w h; (try dsimp only at h); go_simp) <;> with_reducible rfl
   (try simp only [Act.put, yI, yZ, yS])
   refine tkA 3 (some 22) (Op.move (Operand.tmp 6)) 3 (v := ?_) rfl (by kernel_rfl) ?_ ‹_› ?_
   rotate_left
   ·(intro w h; (try dsimp only at h); go_simp) <;> with_reducible rfl
   (try simp only [Act.put, yI, yZ, yS])
   refine tkA 4 (some 23) (Op.indexAddr 29 (Operand.tmp 21) (Operand.tmp 22)) 0 (v := ?_) rfl (by kernel_rfl) ?_ ‹_› ?_
   rotate_left
   ·(intro w h; (try dsimp only at h); go_simp) <;> with_reducible rfl
   (try simp only [Act.put, yI, yZ, yS])
   refine tkA 5 (some 24) (Op.fieldAddr 98 (Operand.tmp 23) 0) 0 (v := ?_) rfl (by kernel_rfl) ?_ ‹_› ?_
   rotate_left
   ·(intro w h; (try dsimp only at h); go_simp) <;> with_reducible rfl
   (try simp only [Act.put, yI, yZ, yS])
   refine tkA 6 (some 25) (Op.load 3 (Operand.tmp 24)) 3 (v := ?_) rfl (by kernel_rfl) ?_ ‹_› ?_
   rotate_left
   ·(intro w h; (try dsimp only at h); go_simp) <;> with_reducible rfl
   (try simp only [Act.put, yI, yZ, yS])
   refine tkA 7 (some 26) (Op.move (Operand.tmp 4)) 29 (v := ?_) rfl (by kernel_rfl) ?_ ‹_› ?_
   rotate_left
   ·(intro w h; (try dsimp only at h); go_simp) <;> with_reducible rfl
   (try simp only [Act.put, yI, yZ, yS])
   refine tkA 8 (some 27) (Op.move (Operand.tmp 6)) 3 (v := ?_) rfl (by kernel_rfl) ?_ ‹_› ?_
   rotate_left
   ·(intro w h; (try dsimp only at h); go_simp) <;> with_reducible rfl
   (try simp only [Act.put, yI, yZ, yS])
   refine tkA 9 (some 28) (Op.indexAddr 29 (Operand.tmp 26) (Operand.tmp 27)) 0 (v := ?_) rfl (by kernel_rfl) ?_ ‹_› ?_
   rotate_left
   ·(intro w h; (try dsimp only at h); go_simp) <;> with_reducible rfl
   (try simp only [Act.put, yI, yZ, yS])
   refine tkA 10 (some 29) (Op.fieldAddr 98 (Operand.tmp 28) 1) 0 (v := ?_) rfl (by kernel_rfl) ?_ ‹_› ?_
   rotate_left
   ·(intro w h; (try dsimp only at h); go_simp) <;> with_reducible rfl
   (try simp only [Act.put, yI, yZ, yS])
   refine tkA 11 (some 30) (Op.load 3 (Operand.tmp 29)) 3 (v := ?_) rfl (by kernel_rfl) ?_ ‹_› ?_
   rotate_left
   ·(intro w h; (try dsimp only at h); go_simp) <;> with_reducible rfl
   (try simp only [Act.put, yI, yZ, yS])
   refine rdA (rs := [12, 16]) (by kernel_rfl) ?_ rfl
   refine rcA (some 31) (Op.call { callee := Callee.value (Operand.func 41), args := #[Operand.tmp 20, Operand.tmp 25, Operand.tmp 30], argTypes := #[31, 3, 3] }) 92 rfl (by kernel_rfl) (fun K hK => ?_) ?_
   ·go_simp
    refine (rgive6_f wr.drew P d'.Al d'.z d'.cl (Z.upto P j).T (Z.upto P j).l (HI.out.dc.zl) (HI.out.dc.runs.below ((Below.refl _ _).drew)) (by have := FT.out.2; have := HI.out.dc.zl; omega) FT.out.1.ok (by omega) (by have := HG.out.2.1; omega) FT.out.1.t0 (by have := FT.out.1.t1; have := HG.out.2.2.2.1; omega) p n (by have := HP.out; omega) (by have := HP.out; have := HG.out.2.1; omega) (by have := HP.out; omega) (by have := HP.out; have := HG.out.2.1; omega)).mono ?_
    rintro e w4 ⟨A', z', c', rfl, hz, hR, hB, hF⟩
    have GB := Lib.hid (show Below wr.heap.size wr w4 ∧ z' = (gvL (Z.upto P j).l P p n).length ∧ Runs w4 A' (gvL (Z.upto P j).l P p n) ∧ (A' = d'.Al ∧ gvL (Z.upto P j).l P p n = (Z.upto P j).l ∨ FreshR wr.heap.size A') from ⟨below_call ((Below.refl _ _).drew) hB, hz, hR, hF.imp id (fun e => e.mono (show wr.heap.size ≤ wr.drew.heap.size from Nat.le_refl _))⟩)
    clear hz hR hB hF
    go_wp2_with fail
    refine hK.out _ _ ?_ (fun hHeld => ?_)
    ·exact HS.out _ GB.out.1
    clear hK K
    (try simp only [Act.put, yI, yZ, yS])
    refine tkA 13 (some 18) (Op.move (Operand.tmp 31)) 92 (v := ?_) rfl (by kernel_rfl) ?_ ‹_› ?_
    rotate_left
    ·(intro w h; (try dsimp only at h); go_simp) <;> with_reducible rfl
    (try simp only [Act.put, yI, yZ, yS])
    refine tkA 14 (some 32) (Op.extract (Operand.tmp 18) 0) 31 (v := ?_) rfl (by kernel_rfl) ?_ ‹_› ?_
    rotate_left
    ·(intro w h; (try dsimp only at h); go_simp) <;> with_reducible rfl
    (try simp only [Act.put, yI, yZ, yS])
    refine tkA 15 (some 33) (Op.extract (Operand.tmp 18) 1) 40 (v := ?_) rfl (by kernel_rfl) ?_ ‹_› ?_
    rotate_left
    ·(intro w h; (try dsimp only at h); go_simp) <;> with_reducible rfl
    (try simp only [Act.put, yI, yZ, yS])
    refine rdA (rs := [16]) (by kernel_rfl) ?_ rfl
    refine rcA (some 7) (Op.alloc 31) 0 rfl (by kernel_rfl) (fun K hK => ?_) AllReadyH.nil
    go_simp
    obtain ⟨wy, hwy⟩ : ∃ wy, wy = w4.alloc (.cells #[.int .i64 0, .slice none 0 0, .int .i64 0] 31) := ⟨_, rfl⟩
    obtain ⟨y, hy⟩ : ∃ y, y = w4.heap.size := ⟨_, rfl⟩
    have BX := Bxn.new w4 31 [.int .i64 0, .slice none 0 0, .int .i64 0]
    have GK := (Below.refl w4.heap.size w4).alloc (Nat.le_refl _) (.cells #[.int .i64 0, .slice none 0 0, .int .i64 0] 31)
    have hyl : wr.heap.size ≤ y := by rw [hy]; exact GB.out.1.size
    rw [← hy] at BX
    rw [show w4.alloc (.cells [.int .i64 0, .slice none 0 0, .int .i64 0].toArray 31) = wy from hwy.symm] at BX
    rw [← hwy] at GK
    have YS := Lib.hid (show Bxn wy y [.int .i64 0, .slice none 0 0, .int .i64 0] ∧ wr.heap.size ≤ y ∧ (gvL (Z.upto P j).l P p n ≠ [] → Off y A') from ⟨BX, hyl, fun hl => runs_off GB.out.2.2.1 hl (by omega)⟩)
    have GB := Lib.hid (show Below wr.heap.size wr wy ∧ z' = (gvL (Z.upto P j).l P p n).length ∧ Runs wy A' (gvL (Z.upto P j).l P p n) ∧ (A' = d'.Al ∧ gvL (Z.upto P j).l P p n = (Z.upto P j).l ∨ FreshR wr.heap.size A') from ⟨below_call GB.out.1 GK, GB.out.2.1, GB.out.2.2.1.below GK, GB.out.2.2.2⟩)
    rw [← hwy]
    try rw [← hy]
    clear BX GK hwy hy hyl
    have y0 := YS.out.1.fz 0
    have y1 := YS.out.1.fz 1
    have y2 := YS.out.1.fz 2
    have u0 := YS.out.1.cs 0 _ rfl
    have u1 := YS.out.1.cs 1 _ rfl
    have u2 := YS.out.1.cs 2 _ rfl
    refine hK.out _ _ ?_ (fun hHeld => ?_)
    ·exact HS.out _ GB.out.1
    clear hK K
    (try simp only [Act.put, yI, yZ, yS])
    refine rdA (rs := [17]) (by kernel_rfl) ?_ rfl
    refine rcA none (Op.store 31 (Operand.tmp 7) (Operand.tmp 32)) 0 rfl (by kernel_rfl) (fun K hK => ?_) AllReadyH.nil
    go_simp
    have YB := Lib.hid (YS.out.1.set3 (.int .i64 (P : Int)) (.slice A' z' c') (.int .i64 (gvT (Z.upto P j).l P p n (Z.upto P j).T)))
    have GD := Lib.hid (show Below wr.heap.size wr (((wy.setCell ⟨y, 0, none⟩ (.int .i64 (P : Int))).setCell ⟨y, 1, none⟩ (.slice A' z' c')).setCell ⟨y, 2, none⟩ (.int .i64 (gvT (Z.upto P j).l P p n (Z.upto P j).T))) ∧ Runs (((wy.setCell ⟨y, 0, none⟩ (.int .i64 (P : Int))).setCell ⟨y, 1, none⟩ (.slice A' z' c')).setCell ⟨y, 2, none⟩ (.int .i64 (gvT (Z.upto P j).l P p n (Z.upto P j).T))) A' (gvL (Z.upto P j).l P p n) from ⟨below_kept GB.out.1 (set3_kept wy y 0 1 2 _ _ _) YS.out.2.1, fun hl => GB.out.2.2.1.besides (set3_kept wy y 0 1 2 _ _ _) (fun a e q => YS.out.2.2 (List.length_pos_iff.1 hl) a e q) hl⟩)
    clear y0 y1 y2 u0 u1 u2
    refine hK.out _ _ ?_ (fun hHeld => ?_)
    ·exact HS.out _ GD.out.1
    clear hK K
    (try simp only [Act.put, yI, yZ, yS])
    refine tkA 18 (some 8) (Op.assign (Operand.tmp 33)) 40 (v := ?_) rfl (by kernel_rfl) ?_ ‹_› ?_
    rotate_left
    ·(intro w h; (try dsimp only at h); go_simp) <;> with_reducible rfl
    (try simp only [Act.put, yI, yZ, yS])
    refine wpAnyH_done (by kernel_rfl) ?_ _
    refine NoPanic.normal ?_
    have q := HI.out.b1.below (by simp) GD.out.1
    have z3 := q.fz 3
    have z4 := q.fz 4
    have z5 := q.fz 5
    have x0 := YB.out.cs 0 _ rfl
    have x1 := YB.out.cs 1 _ rfl
    have x2 := YB.out.cs 2 _ rfl
    clear q
    go_upto_region 8 with fail
    have T6 := GV.out _ A' z' c' GB.out.2.1 GD.out.2 GD.out.1 GB.out.2.2.2
    clear z3 z4 z5 x0 x1 x2 GD YB YS GB GV HS HI
    generalize ((World.setCell _ ⟨g1, 3, none⟩ (.int .i64 (P : Int))).setCell ⟨g1, 4, none⟩ (.slice A' z' c')).setCell ⟨g1, 5, none⟩ (.int .i64 (gvT (Z.upto P j).l P p n (Z.upto P j).T)) = w6 at *
    obtain ⟨bl2, o2, e2, hc⟩ := T6.rl (by omega)
    cases e2
    have d1 := (hc j hjl).2
    rw [HE.out] at d1
    have HT6 := Lib.hid T6
    have s1 : wrap64 (S + n) = S + n := by have := TB.out; have := HP.out; have := HG.out.2.1; unfold wrap64; omega
    clear T6 hc
    go_wp2_with fail
    go_roundw
    case rel => exact ⟨j + 1, _, by omega, by rw [TS.out, s1], by go_num, HT6⟩
    case measure => simp [intOf]; omega
   refine rcA (some 7) (Op.alloc 31) 0 rfl (by kernel_rfl) (fun K hK => ?_) ?_
   ·go_simp
    obtain ⟨wy, hwy⟩ : ∃ wy, wy = (wr.alloc (.cells #[.int .i64 0, .slice none 0 0, .int .i64 0] 31)).drew := ⟨_, rfl⟩
    obtain ⟨y, hy⟩ : ∃ y, y = wr.heap.size := ⟨_, rfl⟩
    have BX := (Bxn.new wr 31 [.int .i64 0, .slice none 0 0, .int .i64 0]).below (by simp) (Below.refl _ _).drew
    have GK := ((Below.refl wr.heap.size wr).alloc (Nat.le_refl _) (.cells #[.int .i64 0, .slice none 0 0, .int .i64 0] 31)).drew
    have hyl : wr.heap.size ≤ y := by omega
    rw [← hy] at BX
    rw [show (wr.alloc (.cells [.int .i64 0, .slice none 0 0, .int .i64 0].toArray 31)).drew = wy from hwy.symm] at BX
    rw [← hwy] at GK
    have YS := Lib.hid (And.intro BX hyl)
    have GA := Lib.hid GK
    rw [← hwy]
    try rw [← hy]
    clear BX GK hwy hy hyl
    have y0 := YS.out.1.fz 0
    have y1 := YS.out.1.fz 1
    have y2 := YS.out.1.fz 2
    have u0 := YS.out.1.cs 0 _ rfl
    have u1 := YS.out.1.cs 1 _ rfl
    have u2 := YS.out.1.cs 2 _ rfl
    refine hK.out _ _ ?_ (fun hHeld => ?_)
    ·exact HS.out _ GA.out
    clear hK K
    (try simp only [Act.put, yI, yZ, yS])
    refine rdA (rs := [12]) (by kernel_rfl) ?_ rfl
    refine rcA (some 31) (Op.call { callee := Callee.value (Operand.func 41), args := #[Operand.tmp 20, Operand.tmp 25, Operand.tmp 30], argTypes := #[31, 3, 3] }) 92 rfl (by kernel_rfl) (fun K hK => ?_) AllReadyH.nil
    go_simp
    refine (rgive6_f wy P d'.Al d'.z d'.cl (Z.upto P j).T (Z.upto P j).l (HI.out.dc.zl) (HI.out.dc.runs.below (GA.out)) (by have := FT.out.2; have := HI.out.dc.zl; omega) FT.out.1.ok (by omega) (by have := HG.out.2.1; omega) FT.out.1.t0 (by have := FT.out.1.t1; have := HG.out.2.2.2.1; omega) p n (by have := HP.out; omega) (by have := HP.out; have := HG.out.2.1; omega) (by have := HP.out; omega) (by have := HP.out; have := HG.out.2.1; omega)).mono ?_
    rintro e w4 ⟨A', z', c', rfl, hz, hR, hB, hF⟩
    have GB := Lib.hid (show Below wr.heap.size wr w4 ∧ z' = (gvL (Z.upto P j).l P p n).length ∧ Runs w4 A' (gvL (Z.upto P j).l P p n) ∧ (A' = d'.Al ∧ gvL (Z.upto P j).l P p n = (Z.upto P j).l ∨ FreshR wr.heap.size A') from ⟨below_call (GA.out) hB, hz, hR, hF.imp id (fun e => e.mono (GA.out.size))⟩)
    have YS := Lib.hid (show Bxn w4 y [.int .i64 0, .slice none 0 0, .int .i64 0] ∧ wr.heap.size ≤ y ∧ (gvL (Z.upto P j).l P p n ≠ [] → Off y A') from ⟨YS.out.1.below (by simp) hB, YS.out.2, fun hl => hF.elim (fun e => by rw [e.1]; exact (HI.out.dc.fresh YS.out.2).2.1 (by rw [← e.2]; exact hl)) (fun e a e1 e2 => by have := e a e1; have := YS.out.1.lt (by simp); omega)⟩)
    clear hz hR hB hF
    go_wp2_with fail
    have y0 := YS.out.1.fz 0
    have y1 := YS.out.1.fz 1
    have y2 := YS.out.1.fz 2
    have u0 := YS.out.1.cs 0 _ rfl
    have u1 := YS.out.1.cs 1 _ rfl
    have u2 := YS.out.1.cs 2 _ rfl
    refine hK.out _ _ ?_ (fun hHeld => ?_)
    ·exact HS.out _ GB.out.1
    clear hK K
    (try simp only [Act.put, yI, yZ, yS])
    refine tkA 13 (some 18) (Op.move (Operand.tmp 31)) 92 (v := ?_) rfl (by kernel_rfl) ?_ ‹_› ?_
    rotate_left
    ·(intro w h; (try dsimp only at h); go_simp) <;> with_reducible rfl
    (try simp only [Act.put, yI, yZ, yS])
    refine tkA 14 (some 32) (Op.extract (Operand.tmp 18) 0) 31 (v := ?_) rfl (by kernel_rfl) ?_ ‹_› ?_
    rotate_left
    ·(intro w h; (try dsimp only at h); go_simp) <;> with_reducible rfl
    (try simp only [Act.put, yI, yZ, yS])
    refine tkA 15 (some 33) (Op.extract (Operand.tmp 18) 1) 40 (v := ?_) rfl (by kernel_rfl) ?_ ‹_› ?_
    rotate_left
    ·(intro w h; (try dsimp only at h); go_simp) <;> with_reducible rfl
    (try simp only [Act.put, yI, yZ, yS])
    refine rdA (rs := [17]) (by kernel_rfl) ?_ rfl
    refine rcA none (Op.store 31 (Operand.tmp 7) (Operand.tmp 32)) 0 rfl (by kernel_rfl) (fun K hK => ?_) AllReadyH.nil
    go_simp
    have YB := Lib.hid (YS.out.1.set3 (.int .i64 (P : Int)) (.slice A' z' c') (.int .i64 (gvT (Z.upto P j).l P p n (Z.upto P j).T)))
    have GD := Lib.hid (show Below wr.heap.size wr (((w4.setCell ⟨y, 0, none⟩ (.int .i64 (P : Int))).setCell ⟨y, 1, none⟩ (.slice A' z' c')).setCell ⟨y, 2, none⟩ (.int .i64 (gvT (Z.upto P j).l P p n (Z.upto P j).T))) ∧ Runs (((w4.setCell ⟨y, 0, none⟩ (.int .i64 (P : Int))).setCell ⟨y, 1, none⟩ (.slice A' z' c')).setCell ⟨y, 2, none⟩ (.int .i64 (gvT (Z.upto P j).l P p n (Z.upto P j).T))) A' (gvL (Z.upto P j).l P p n) from ⟨below_kept GB.out.1 (set3_kept w4 y 0 1 2 _ _ _) YS.out.2.1, fun hl => GB.out.2.2.1.besides (set3_kept w4 y 0 1 2 _ _ _) (fun a e q => YS.out.2.2 (List.length_pos_iff.1 hl) a e q) hl⟩)
    clear y0 y1 y2 u0 u1 u2
    refine hK.out _ _ ?_ (fun hHeld => ?_)
    ·exact HS.out _ GD.out.1
    clear hK K
    (try simp only [Act.put, yI, yZ, yS])
    refine tkA 18 (some 8) (Op.assign (Operand.tmp 33)) 40 (v := ?_) rfl (by kernel_rfl) ?_ ‹_› ?_
    rotate_left
    ·(intro w h; (try dsimp only at h); go_simp) <;> with_reducible rfl
    (try simp only [Act.put, yI, yZ, yS])
    refine wpAnyH_done (by kernel_rfl) ?_ _
    refine NoPanic.normal ?_
    have q := HI.out.b1.below (by simp) GD.out.1
    have z3 := q.fz 3
    have z4 := q.fz 4
    have z5 := q.fz 5
    have x0 := YB.out.cs 0 _ rfl
    have x1 := YB.out.cs 1 _ rfl
    have x2 := YB.out.cs 2 _ rfl
    clear q
    go_upto_region 8 with fail
    have T6 := GV.out _ A' z' c' GB.out.2.1 GD.out.2 GD.out.1 GB.out.2.2.2
    clear z3 z4 z5 x0 x1 x2 GD YB YS GB GV HS HI
    generalize ((World.setCell _ ⟨g1, 3, none⟩ (.int .i64 (P : Int))).setCell ⟨g1, 4, none⟩ (.slice A' z' c')).setCell ⟨g1, 5, none⟩ (.int .i64 (gvT (Z.upto P j).l P p n (Z.upto P j).T)) = w6 at *
    obtain ⟨bl2, o2, e2, hc⟩ := T6.rl (by omega)
    cases e2
    have d1 := (hc j hjl).2
    rw [HE.out] at d1
    have HT6 := Lib.hid T6
    have s1 : wrap64 (S + n) = S + n := by have := TB.out; have := HP.out; have := HG.out.2.1; unfold wrap64; omega
    clear T6 hc
    go_wp2_with fail
    go_roundw
    case rel => exact ⟨j + 1, _, by omega, by rw [TS.out, s1], by go_num, HT6⟩
    case measure => simp [intOf]; omega
   exact AllReadyH.nil
  ·have hjz : j = (M.all Z.K).length := by have := HZ.out; omega
   have z6 := HI.out.b1.fz 6
   have c6 := HI.out.b1.cs 6 _ rfl
   go_upto_region 10 with fail
   have k6 := kept_set1 (Kept.refl wr (fun b => b = g1)) 6 (.slice none 0 0)
   have y := HI.out.b1.set 6 (by simp) (.slice none 0 0)
   have x := HI.out.b2.kept (by simp) k6 (fun e => HI.out.ne e.symm)
   have D6 := HI.out.dc.kept' k6 (fun x e => by subst e; exact HI.out.o1)
   have b6 := below_kept HI.out.bel k6 HI.out.h1
   generalize wr.setCell ⟨g1, 6, none⟩ (.slice none 0 0) = w6 at *
   have c0 := y.cs 0 _ rfl
   have c1 := y.cs 1 _ rfl
   have c2 := y.cs 2 _ rfl
   have c3 := y.cs 3 _ rfl
   have c4 := y.cs 4 _ rfl
   have c5 := y.cs 5 _ rfl
   have c6 := y.cs 6 _ rfl
   have f0 := x.fz 0
   have f1 := x.fz 1
   have f2 := x.fz 2
   have f3 := x.fz 3
   have f4 := x.fz 4
   have f5 := x.fz 5
   have f6 := x.fz 6
   have e0 := x.cs 0 _ rfl
   have e1 := x.cs 1 _ rfl
   have e2 := x.cs 2 _ rfl
   have e3 := x.cs 3 _ rfl
   have e4 := x.cs 4 _ rfl
   have e5 := x.cs 5 _ rfl
   have e6 := x.cs 6 _ rfl
   have H6 := Lib.hid (And.intro D6 (And.intro b6 (And.intro x (And.intro HI.out.mv (And.intro HI.out.o2 (And.intro HI.out.h1 hjz))))))
   clear HI y x D6 b6 k6 z6 hjz
   go_wp2_with fail
   obtain ⟨D6, b6, x6, mv6, o6, l6, hj6⟩ := H6.out
   have hk := D6.keeps (A' := none) (z' := 0) (c' := 0) (kl' := []) (K' := M.empty) rfl (Nat.le_refl _) Runs.nil rfl (Below.refl _ _) (.inr (fun a e => by cases e))
   rw [hj6, St.upto_all] at hk
   have og := hk.2 g2 (x6.lt (by simp)) (by rw [hj6] at o6; exact o6)
   have k7 := kept_set7 w6 g2 (.int .i64 (P : Int)) (.slice d'.A d'.n d'.c) (.int .i64 ((Z.upto P j).u : Int)) (.int .i64 (P : Int)) (.slice d'.Al d'.z d'.cl) (.int .i64 (Z.upto P j).T) (.slice none 0 0)
   have y7 := x6.set7 (.int .i64 (P : Int)) (.slice d'.A d'.n d'.c) (.int .i64 ((Z.upto P j).u : Int)) (.int .i64 (P : Int)) (.slice d'.Al d'.z d'.cl) (.int .i64 (Z.upto P j).T) (.slice none 0 0)
   have eT : (Z.upto P j).T = (Z.trim P).T := by rw [hj6, ← St.upto_all]
   have eS : M.total ((M.all Z.K).take j) = M.sum Z.K := by rw [hj6, List.take_length, M.sum_total]
   rw [eS]
   refine bodyPost_ret (v := .tuple #[dv P (Z.trim P) { d' with Ak := none, zk := 0, ck := 0, kl := [] }, .int .i64 (M.sum Z.K)]) ?_ rfl ?_
   ·have t0 := y7.cs 0 _ rfl
    have t1 := y7.cs 1 _ rfl
    have t2 := y7.cs 2 _ rfl
    have t3 := y7.cs 3 _ rfl
    have t4 := y7.cs 4 _ rfl
    have t5 := y7.cs 5 _ rfl
    have t6 := y7.cs 6 _ rfl
    generalize World.setCell _ ⟨g2, 6, none⟩ _ = w7 at t0 t1 t2 t3 t4 t5 t6 ⊢
    simp [results, go_sem, t0, t1, t2, t3, t4, t5, t6, eT]
    rfl
   ·exact ⟨_, rfl, hk.1.kept' k7 (fun x e => by subst e; exact og), below_kept b6 k7 (by have := HN.out; omega), fun x hx ho => hk.2 x (Nat.lt_of_lt_of_le hx b6.size) (by have := mv6 x hx ho; rw [hj6] at this; exact this)⟩
end
end Go.Proofs.YtmboibipabkhaaaGreat
