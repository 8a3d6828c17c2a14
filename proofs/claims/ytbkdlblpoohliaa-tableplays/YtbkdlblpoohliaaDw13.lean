/-
  The document's with.
-/
import Derived.Test.YtbkdlblpoohliaaD13
namespace Go.Proofs.Ytbkdlblpoohliaa
open Go.ChangeShapes Go.WideShapes Go.ChangeAt Go.RowKit Go.Deep T13
set_option linter.unusedVariables false
set_option maxRecDepth 20000

set_option maxHeartbeats 4000000 in
theorem with_any (w : World) (B : Nat) (K : Int) (A : Option Addr) (n c : Nat) (F : Option Addr) (m d : Nat) (l : List (M.Te Int)) (i : Nat) (e : M.Te Int) (hrow : w.ownsRow B 41 3 (.slice A n c) n (ecs l)) (hi : i ≤ l.length) (hl : l.length ≤ 1000000) :
    Calls Try.prog 35 #[tv K A n c F m d, .int .i64 (i : Int), .agg #[.int .i64 e.v, .bool e.u, .int .i64 (e.g : Int)]] w fun r w' => ∃ A' n' c', r = .returned (tv K A' n' c' F m d) ∧ w'.ownsRow w.heap.size 41 3 (.slice A' n' c') n' (ecs (M.putAt l i e)) ∧ Below w.heap.size w w' := by
  have hn := e_len hrow
  obtain ⟨w1, hw1⟩ : ∃ y, y = w.alloc (.cells #[.int .i64 K, .slice A n c, .slice F m d] 29) := ⟨_, rfl⟩
  obtain ⟨w2, hw2⟩ : ∃ y, y = w1.alloc (.cells #[.int .i64 e.v, .bool e.u, .int .i64 (e.g : Int)] 41) := ⟨_, rfl⟩
  obtain ⟨w3, hw3⟩ : ∃ y, y = w2.alloc (.cells #[.int .i64 0, .slice none 0 0, .slice none 0 0] 29) := ⟨_, rfl⟩
  obtain ⟨g3, hg3⟩ : ∃ y, y = w.heap.size := ⟨_, rfl⟩
  have s1 : w1.heap.size = g3 + 1 := by rw [hw1, hg3]; simp
  have s2 : w2.heap.size = g3 + 1 + 1 := by rw [hw2]; simp [s1]
  have b1 : Below w.heap.size w w1 := by rw [hw1]; exact (Below.refl _ _).alloc (Nat.le_refl _) _
  have b12 : Below w1.heap.size w1 w2 := by rw [hw2]; exact (Below.refl _ _).alloc (Nat.le_refl _) _
  have b23 : Below w2.heap.size w2 w3 := by rw [hw3]; exact (Below.refl _ _).alloc (Nat.le_refl _) _
  have t3 : Bt w3 g3 K A n c F m d := by
    have : Bt w1 g3 K A n c F m d := by rw [hw1, hg3]; exact Bt.new w K A n c F m d
    exact (this.below b12).below b23
  have t6 : Bt w3 (g3 + 1 + 1) 0 none 0 0 none 0 0 := by rw [← s2, hw3]; exact Bt.new w2 0 none 0 0 none 0 0
  have e5 : ∀ j u, (ecl e)[j]? = some u → w3.cell? ⟨g3 + 1, j, none⟩ = some u := fun j u hu => by
    have h1 : w2.cell? ⟨g3 + 1, j, none⟩ = some u := by
      have := news_new w1 (ecl e) 41 j u hu
      rw [Addr.add_lit, Nat.zero_add, s1] at this
      rw [hw2]; exact this
    exact (b23.cell (lt_of_cell h1)).trans h1
  have bel3 : Below w.heap.size w w3 := below_call (below_call b1 b12) b23
  have hr3 := row_below hrow bel3
  have HB := Lib.hid bel3
  have HT3 := Lib.hid t3
  have HT6 := Lib.hid t6
  have HE := Lib.hid e5
  have HR := Lib.hid hr3
  have HLL := Lib.hid (lies_e hr3)
  have HW := Lib.hid (show w3 = ((w.alloc (.cells #[.int .i64 K, .slice A n c, .slice F m d] 29)).alloc (.cells #[.int .i64 e.v, .bool e.u, .int .i64 (e.g : Int)] 41)).alloc (.cells #[.int .i64 0, .slice none 0 0, .slice none 0 0] 29) by rw [hw3, hw2, hw1])
  have HG := Lib.hid hg3
  have HN := Lib.hid hn
  have N3 := Lib.hid (World.ownsRow_nil w3 w.heap.size 41 3)
  have hn6 : n ≤ 1000000 := by omega
  have hin : i ≤ n := by omega
  have x1 := t3.c1
  clear hrow hw1 hw2 hw3 s1 s2 b1 b12 b23 t3 t6 e5 bel3 hr3 hn hi hl hg3
  go_enter Try.func35, Try.ntmps35
  go_upto_region 1 with fail
  rw [← HW.out, ← HG.out]
  go_upto_region 3 with (at_builtin; refine app_e rfl _ _ rfl w3 w.heap.size none 0 0 [] rfl N3.out A n c l rfl HN.out HLL.out (by omega) HB.out.size ?_; intro A4 c4 w4 hrow hk4 hat; rw [Nat.zero_add] at hrow; (have R4 := Lib.hid hrow); (have K4 := Lib.hid (hk4.mono (O' := fun _ => False) (fun x _ hx => absurd hx rowD_none))); (have HA4 := Lib.hid (show ∀ x, rowD A4 x → x = w3.heap.size from fun x hx => ((hat x hx).resolve_left rowD_none))); clear hrow hk4 hat)
  clear x1
  have t3 := HT3.out.kept K4.out id
  have t6 := HT6.out.kept K4.out id
  have bel4 := HB.out.trans (K4.out.below HB.out.size (fun _ e => e.elim))
  have h50 := K4.out.cell_some (HE.out 0 (.int .i64 e.v) rfl) id
  have h51 := K4.out.cell_some (HE.out 1 (.bool e.u) rfl) id
  have h52 := K4.out.cell_some (HE.out 2 (.int .i64 (e.g : Int)) rfl) id
  have T3 := Lib.hid t3
  have T6 := Lib.hid t6
  have HGL := Lib.hid (show w.heap.size ≤ g3 by have := HG.out; omega)
  have B5 := Lib.hid bel4
  clear t3 t6 bel4
  rcases Nat.lt_or_ge i n with hlt | hge
  · have R5 := Lib.hid (show w4.ownsRow w.heap.size 41 3 (.slice A4 n c4) n (ecs l) from R4.out)
    have HIL := Lib.hid (show i < l.length by have := HN.out; omega)
    have PUT : M.putAt l i e = l.set i e := by unfold M.putAt; rw [if_pos HIL.out]
    have hne : ((i : Int) == (n : Int)) = false := by simp; omega

    obtain ⟨x, hx⟩ : ∃ x, l[i]? = some x := ⟨_, List.getElem?_eq_getElem HIL.out⟩
    obtain ⟨g5, rfl, hi5, enl, q0, q1, q2⟩ := e_cells R5.out hx
    clear enl
    have f0 := R5.out.frozenAt (i * 3)
    have f1 := R5.out.frozenAt (i * 3 + 1)
    have f2 := R5.out.frozenAt (i * 3 + 2)
    have hs := ecs_set l i e HIL.out
    have k6 : Kept w4 (((w4.setCell ⟨g5, i * 3, none⟩ (.int .i64 e.v)).setCell ⟨g5, i * 3 + 1, none⟩ (.bool e.u)).setCell ⟨g5, i * 3 + 2, none⟩ (.int .i64 (e.g : Int))) (fun x => x = g5) :=
      (((Kept.refl w4 (fun x => x = g5)).setCell (p := ⟨g5, i * 3, none⟩) (fun _ => rfl) _).setCell (p := ⟨g5, i * 3 + 1, none⟩) (fun _ => rfl) _).setCell (p := ⟨g5, i * 3 + 2, none⟩) (fun _ => rfl) _
    have r6 := (((R5.out.stored (i * 3) (.int .i64 e.v)).1.stored (i * 3 + 1) (.bool e.u)).1.stored (i * 3 + 2) (.int .i64 (e.g : Int))).1
    rw [← hs] at r6
    have hg5 : rowD (some ⟨g5, 0, none⟩) g5 := ⟨_, rfl, rfl⟩
    have n3 : ¬ g3 = g5 := fun e => row_off R5.out T3.out.blk (by decide) (e ▸ hg5)
    have n6 : ¬ g3 + 1 + 1 = g5 := fun e => row_off R5.out T6.out.blk (by decide) (e ▸ hg5)
    have low4 := (row_low R5.out hg5).1
    go_upto_region 6 with fail
    obtain ⟨w6, hw6⟩ : ∃ y, y = (((w4.setCell ⟨g5, i * 3, none⟩ (.int .i64 e.v)).setCell ⟨g5, i * 3 + 1, none⟩ (.bool e.u)).setCell ⟨g5, i * 3 + 2, none⟩ (.int .i64 (e.g : Int))) := ⟨_, rfl⟩
    rw [← hw6]
    rw [← hw6] at k6 r6
    have T3' := Lib.hid (T3.out.kept k6 n3)
    have T6' := Lib.hid (T6.out.kept k6 n6)
    have R6 := Lib.hid r6
    have B6 := Lib.hid (B5.out.trans (k6.below B5.out.size (fun x hx => hx ▸ low4)))
    clear hx q0 q1 q2 f0 f1 f2 hs k6 r6 n3 n6 low4 hw6 h50 h51 h52
    have y1 := T3'.out.c1
    have z1 := T3'.out.frz 1
    go_upto_region 7 with fail
    obtain ⟨w7, hw7⟩ : ∃ y, y = w6.setCell ⟨g3, 1, none⟩ (.slice (some ⟨g5, 0, none⟩) n c4) := ⟨_, rfl⟩
    rw [← hw7]
    have k7 : Kept w6 w7 (fun x => x = g3) := by rw [hw7]; exact (Kept.refl w6 (fun x => x = g3)).setCell (p := ⟨g3, 1, none⟩) (fun _ => rfl) _
    have t7 : Bt w7 g3 K (some ⟨g5, 0, none⟩) n c4 F m d := by rw [hw7]; exact T3'.out.set1 _ _ _
    have t67 := T6'.out.kept k7 (show ¬ g3 + 1 + 1 = g3 by omega)
    have r7 := row_kept R6.out k7 (fun x hx e => row_off R6.out T3'.out.blk (by decide) (e ▸ hx))
    have B7 := Lib.hid (B6.out.trans (k7.below B6.out.size (fun x hx => by have := HGL.out; omega)))
    have T67 := Lib.hid t67
    have R7 := Lib.hid r7
    clear y1 z1 hw7 k7 r7
    have x0 := t7.c0
    have x1 := t7.c1
    have x2 := t7.c2
    have u0 := t67.c0
    have u1 := t67.c1
    have u2 := t67.c2
    have f0 := t67.frz 0
    have f1 := t67.frz 1
    have f2 := t67.frz 2
    have T8 := Lib.hid (t67.put K (some ⟨g5, 0, none⟩) n c4 F m d)
    have K8 := Lib.hid (kept_put (g := g3 + 1 + 1) w7 (.int .i64 K) (.slice (some ⟨g5, 0, none⟩) n c4) (.slice F m d))
    clear t7 t67
    go_wp2_with fail
    have v0 := T8.out.c0
    have v1 := T8.out.c1
    have v2 := T8.out.c2
    refine bodyPost_ret (v := tv K (some ⟨g5, 0, none⟩) n c4 F m d) ?_ rfl ?_
    · simp [results, go_sem, v0, v1, v2]
    · refine ⟨_, _, _, rfl, ?_, B7.out.trans (K8.out.below B7.out.size (fun x hx => by have := HGL.out; omega))⟩
      (try rw [PUT])
      exact row_kept R7.out K8.out (fun x hx e => row_off R7.out T67.out.blk (by decide) (e ▸ hx))
  · obtain rfl : i = n := by omega
    have PUT : M.putAt l i e = (l ++ [(⟨false, 0, 0⟩ : M.Te Int)]).set i e := by
      unfold M.putAt
      rw [if_neg (by have := HN.out; omega), show i = l.length from HN.out]
      simp
    have b4 := (Below.refl w4.heap.size w4).alloc (Nat.le_refl _) (.cells #[.int .i64 0, .bool false, .int .i64 0] 41)
    have R4' := Lib.hid (row_below (show w4.ownsRow w.heap.size 41 3 (.slice A4 i c4) i (ecs l) from R4.out) b4)
    have LE := Lib.hid (lies_ecl w4 ⟨false, 0, 0⟩)
    have B4' := Lib.hid (below_call B5.out b4)
    have BB4 := Lib.hid b4
    have T3a := Lib.hid (T3.out.below b4)
    have T6a := Lib.hid (T6.out.below b4)
    have m0 := Lib.hid ((b4.cell (lt_of_cell h50)).trans h50)
    have m1 := Lib.hid ((b4.cell (lt_of_cell h51)).trans h51)
    have m2 := Lib.hid ((b4.cell (lt_of_cell h52)).trans h52)
    clear b4 h50 h51 h52
    go_upto_region 5 with (at_builtin; refine app_e rfl _ _ rfl _ w.heap.size A4 i c4 l rfl R4'.out (some ⟨w4.heap.size, 0, none⟩) 1 1 [⟨false, 0, 0⟩] rfl rfl LE.out (by omega) B4'.out.size ?_; intro A5 c5 w5 hrow hk5 hat; (have R5 := Lib.hid hrow); (have K5 := Lib.hid hk5); clear hrow hk5 hat)
    have off3 : ¬ rowD A4 g3 := row_off R4'.out T3a.out.blk (by decide)
    have off6 : ¬ rowD A4 (g3 + 1 + 1) := row_off R4'.out T6a.out.blk (by decide)
    have off5 : ¬ rowD A4 (g3 + 1) := fun hx => by
      have h1 := HA4.out _ hx
      have h2 := HB.out.size
      have h3 := lt_of_cell (HE.out 0 _ rfl)
      simp only at h3
      omega
    have T3 := Lib.hid (T3a.out.kept K5.out off3)
    have T6 := Lib.hid (T6a.out.kept K5.out off6)
    have h50 := K5.out.cell_some m0.out off5
    have h51 := K5.out.cell_some m1.out off5
    have h52 := K5.out.cell_some m2.out off5
    have B5 := Lib.hid (B4'.out.trans (K5.out.below B4'.out.size (fun x hx => (row_low R4'.out hx).1)))
    have HIL := Lib.hid (show i < (l ++ [(⟨false, 0, 0⟩ : M.Te Int)]).length by rw [List.length_append]; have := HN.out; simp; omega)
    clear off3 off6 off5

    obtain ⟨x, hx⟩ : ∃ x, (l ++ [(⟨false, 0, 0⟩ : M.Te Int)])[i]? = some x := ⟨_, List.getElem?_eq_getElem HIL.out⟩
    obtain ⟨g5, rfl, hi5, enl, q0, q1, q2⟩ := e_cells R5.out hx
    clear enl
    have f0 := R5.out.frozenAt (i * 3)
    have f1 := R5.out.frozenAt (i * 3 + 1)
    have f2 := R5.out.frozenAt (i * 3 + 2)
    have hs := ecs_set (l ++ [(⟨false, 0, 0⟩ : M.Te Int)]) i e HIL.out
    have k6 : Kept w5 (((w5.setCell ⟨g5, i * 3, none⟩ (.int .i64 e.v)).setCell ⟨g5, i * 3 + 1, none⟩ (.bool e.u)).setCell ⟨g5, i * 3 + 2, none⟩ (.int .i64 (e.g : Int))) (fun x => x = g5) :=
      (((Kept.refl w5 (fun x => x = g5)).setCell (p := ⟨g5, i * 3, none⟩) (fun _ => rfl) _).setCell (p := ⟨g5, i * 3 + 1, none⟩) (fun _ => rfl) _).setCell (p := ⟨g5, i * 3 + 2, none⟩) (fun _ => rfl) _
    have r6 := (((R5.out.stored (i * 3) (.int .i64 e.v)).1.stored (i * 3 + 1) (.bool e.u)).1.stored (i * 3 + 2) (.int .i64 (e.g : Int))).1
    rw [← hs] at r6
    have hg5 : rowD (some ⟨g5, 0, none⟩) g5 := ⟨_, rfl, rfl⟩
    have n3 : ¬ g3 = g5 := fun e => row_off R5.out T3.out.blk (by decide) (e ▸ hg5)
    have n6 : ¬ g3 + 1 + 1 = g5 := fun e => row_off R5.out T6.out.blk (by decide) (e ▸ hg5)
    have low5 := (row_low R5.out hg5).1
    go_upto_region 6 with fail
    obtain ⟨w6, hw6⟩ : ∃ y, y = (((w5.setCell ⟨g5, i * 3, none⟩ (.int .i64 e.v)).setCell ⟨g5, i * 3 + 1, none⟩ (.bool e.u)).setCell ⟨g5, i * 3 + 2, none⟩ (.int .i64 (e.g : Int))) := ⟨_, rfl⟩
    rw [← hw6]
    rw [← hw6] at k6 r6
    have T3' := Lib.hid (T3.out.kept k6 n3)
    have T6' := Lib.hid (T6.out.kept k6 n6)
    have R6 := Lib.hid r6
    have B6 := Lib.hid (B5.out.trans (k6.below B5.out.size (fun x hx => hx ▸ low5)))
    clear hx q0 q1 q2 f0 f1 f2 hs k6 r6 n3 n6 low5 hw6 h50 h51 h52
    have y1 := T3'.out.c1
    have z1 := T3'.out.frz 1
    go_upto_region 7 with fail
    obtain ⟨w7, hw7⟩ : ∃ y, y = w6.setCell ⟨g3, 1, none⟩ (.slice (some ⟨g5, 0, none⟩) (i + 1) c5) := ⟨_, rfl⟩
    rw [← hw7]
    have k7 : Kept w6 w7 (fun x => x = g3) := by rw [hw7]; exact (Kept.refl w6 (fun x => x = g3)).setCell (p := ⟨g3, 1, none⟩) (fun _ => rfl) _
    have t7 : Bt w7 g3 K (some ⟨g5, 0, none⟩) (i + 1) c5 F m d := by rw [hw7]; exact T3'.out.set1 _ _ _
    have t67 := T6'.out.kept k7 (show ¬ g3 + 1 + 1 = g3 by omega)
    have r7 := row_kept R6.out k7 (fun x hx e => row_off R6.out T3'.out.blk (by decide) (e ▸ hx))
    have B7 := Lib.hid (B6.out.trans (k7.below B6.out.size (fun x hx => by have := HGL.out; omega)))
    have T67 := Lib.hid t67
    have R7 := Lib.hid r7
    clear y1 z1 hw7 k7 r7
    have x0 := t7.c0
    have x1 := t7.c1
    have x2 := t7.c2
    have u0 := t67.c0
    have u1 := t67.c1
    have u2 := t67.c2
    have f0 := t67.frz 0
    have f1 := t67.frz 1
    have f2 := t67.frz 2
    have T8 := Lib.hid (t67.put K (some ⟨g5, 0, none⟩) (i + 1) c5 F m d)
    have K8 := Lib.hid (kept_put (g := g3 + 1 + 1) w7 (.int .i64 K) (.slice (some ⟨g5, 0, none⟩) (i + 1) c5) (.slice F m d))
    clear t7 t67
    go_wp2_with fail
    have v0 := T8.out.c0
    have v1 := T8.out.c1
    have v2 := T8.out.c2
    refine bodyPost_ret (v := tv K (some ⟨g5, 0, none⟩) (i + 1) c5 F m d) ?_ rfl ?_
    · simp [results, go_sem, v0, v1, v2]
    · refine ⟨_, _, _, rfl, ?_, B7.out.trans (K8.out.below B7.out.size (fun x hx => by have := HGL.out; omega))⟩
      (try rw [PUT])
      exact row_kept R7.out K8.out (fun x hx e => row_off R7.out T67.out.blk (by decide) (e ▸ hx))
end Go.Proofs.Ytbkdlblpoohliaa
