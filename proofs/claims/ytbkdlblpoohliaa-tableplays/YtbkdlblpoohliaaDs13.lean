/-
  The document's Set and Drop.
-/
import Derived.Test.YtbkdlblpoohliaaDa13
namespace Go.Proofs.Ytbkdlblpoohliaa
open Go.ChangeShapes Go.WideShapes Go.ChangeAt Go.RowKit Go.Deep T13
set_option linter.unusedVariables false
set_option maxRecDepth 20000

theorem cell_put3 {g ge o : Nat} (w : World) (hne : g ≠ ge) (a b c : Value) : (((w.setCell ⟨g, 0, none⟩ a).setCell ⟨g, 1, none⟩ b).setCell ⟨g, 2, none⟩ c).cell? ⟨ge, o, none⟩ = w.cell? ⟨ge, o, none⟩ := by
  rw [World.cell?_setCell_other _ _ _ _ (fun e => hne (by injection e)), World.cell?_setCell_other _ _ _ _ (fun e => hne (by injection e)), World.cell?_setCell_other _ _ _ _ (fun e => hne (by injection e))]

set_option maxHeartbeats 4000000 in
theorem rset_none (w : World) (B : Nat) (K : Int) (S : M.Tt Int) (A : Option Addr) (n c : Nat) (F : Option Addr) (m d : Nat) (h : Doc13 w B S A n c F m d) (hB : B ≤ w.heap.size) (hok : S.Ok K) (hl : S.s.length ≤ 1000000) (hh : Nat) (h64 : hh < 18446744073709551616) (v : Int) (hno : S.liv K hh = none) :
    Calls Try.prog 14 #[tv K A n c F m d, .int .u64 (hh : Int), .int .i64 v] w (DGot13 w B K S A F (fun z => .tuple #[z, .bool false])) := by
  have T2 := Lib.hid (two_new w K A n c F m d)
  obtain ⟨w2, hw2⟩ : ∃ y, y = (w.alloc (.cells #[.int .i64 K, .slice A n c, .slice F m d] 29)).alloc (.cells #[.int .i64 0, .slice none 0 0, .slice none 0 0] 29) := ⟨_, rfl⟩
  rw [← hw2] at T2
  obtain ⟨g, hg⟩ : ∃ y, y = w.heap.size := ⟨_, rfl⟩
  rw [← hg] at T2
  have HW := Lib.hid hw2
  have HG := Lib.hid hg
  have HBQ := Lib.hid hB
  have D2 := Lib.hid (h.below T2.out.b)
  have LV := Lib.hid (rlive_any w2 B K S A n c F m d D2.out hok (by omega) hh h64)
  have x0 := T2.out.t.c0
  have x1 := T2.out.t.c1
  have x2 := T2.out.t.c2
  have HLI := Lib.hid (show M.livI K S hh = -1 by unfold M.livI; rw [hno])
  clear h hB hok hl hw2 hg hno
  go_enter Try.func14, Try.ntmps14
  go_upto_region 1 with fail
  rw [← HW.out, ← HG.out]
  go_wp2_with fail
  refine LV.out.mono ?_
  rintro _ w3 ⟨rfl, b3⟩
  rw [HLI.out]
  have T3 := Lib.hid (T2.out.below b3)
  have D3 := Lib.hid (D2.out.below b3)
  clear x0 x1 x2 b3
  have x0 := T3.out.t.c0
  have x1 := T3.out.t.c1
  have x2 := T3.out.t.c2
  have f0 := T3.out.r.frz 0
  have f1 := T3.out.r.frz 1
  have f2 := T3.out.r.frz 2
  have u0 := T3.out.r.c0
  have u1 := T3.out.r.c1
  have u2 := T3.out.r.c2
  have T7h := Lib.hid (T3.out.r.put K A n c F m d)
  have k7 := kept_put (g := g + 1) w3 (.int .i64 K) (.slice A n c) (.slice F m d)
  have RES := Lib.hid (show DGot13 w B K S A F (fun z => .tuple #[z, .bool false]) (.returned (.tuple #[tv K A n c F m d, .bool false])) ((((w3.setCell ⟨g + 1, 0, none⟩ (.int .i64 K)).setCell ⟨g + 1, 1, none⟩ (.slice A n c)).setCell ⟨g + 1, 2, none⟩ (.slice F m d))) from
    ⟨A, n, c, F, m, d, rfl, ⟨row_kept D3.out.row k7 (fun x hx e => row_off D3.out.row T3.out.r.blk (by decide) (e ▸ hx)), row_kept D3.out.fre k7 (fun x hx e => row_off D3.out.fre T3.out.r.blk (by decide) (e ▸ hx))⟩, below_put T3.out.b (by have := T3.out.l; omega) _ _ _, fun x hx => .inl hx, fun x hx => .inl hx⟩)
  clear k7
  go_wp2_with fail
  have v0 := T7h.out.c0
  have v1 := T7h.out.c1
  have v2 := T7h.out.c2
  refine bodyPost_ret (v := .tuple #[tv K A n c F m d, .bool false]) ?_ rfl ?_
  · simp [results, go_sem, v0, v1, v2]
  · exact RES.out

set_option maxHeartbeats 4000000 in
theorem rdrop_none (w : World) (B : Nat) (K : Int) (S : M.Tt Int) (A : Option Addr) (n c : Nat) (F : Option Addr) (m d : Nat) (h : Doc13 w B S A n c F m d) (hB : B ≤ w.heap.size) (hok : S.Ok K) (hl : S.s.length ≤ 1000000) (hh : Nat) (h64 : hh < 18446744073709551616) (hno : S.liv K hh = none) :
    Calls Try.prog 16 #[tv K A n c F m d, .int .u64 (hh : Int)] w (DGot13 w B K S A F (fun z => .tuple #[z, .bool false])) := by
  have T2 := Lib.hid (two_new w K A n c F m d)
  obtain ⟨w2, hw2⟩ : ∃ y, y = (w.alloc (.cells #[.int .i64 K, .slice A n c, .slice F m d] 29)).alloc (.cells #[.int .i64 0, .slice none 0 0, .slice none 0 0] 29) := ⟨_, rfl⟩
  rw [← hw2] at T2
  obtain ⟨g, hg⟩ : ∃ y, y = w.heap.size := ⟨_, rfl⟩
  rw [← hg] at T2
  have HW := Lib.hid hw2
  have HG := Lib.hid hg
  have HBQ := Lib.hid hB
  have D2 := Lib.hid (h.below T2.out.b)
  have LV := Lib.hid (rlive_any w2 B K S A n c F m d D2.out hok (by omega) hh h64)
  have x0 := T2.out.t.c0
  have x1 := T2.out.t.c1
  have x2 := T2.out.t.c2
  have HLI := Lib.hid (show M.livI K S hh = -1 by unfold M.livI; rw [hno])
  clear h hB hok hl hw2 hg hno
  go_enter Try.func16, Try.ntmps16
  go_upto_region 1 with fail
  rw [← HW.out, ← HG.out]
  go_wp2_with fail
  refine LV.out.mono ?_
  rintro _ w3 ⟨rfl, b3⟩
  rw [HLI.out]
  have T3 := Lib.hid (T2.out.below b3)
  have D3 := Lib.hid (D2.out.below b3)
  clear x0 x1 x2 b3
  have x0 := T3.out.t.c0
  have x1 := T3.out.t.c1
  have x2 := T3.out.t.c2
  have f0 := T3.out.r.frz 0
  have f1 := T3.out.r.frz 1
  have f2 := T3.out.r.frz 2
  have u0 := T3.out.r.c0
  have u1 := T3.out.r.c1
  have u2 := T3.out.r.c2
  have T7h := Lib.hid (T3.out.r.put K A n c F m d)
  have k7 := kept_put (g := g + 1) w3 (.int .i64 K) (.slice A n c) (.slice F m d)
  have RES := Lib.hid (show DGot13 w B K S A F (fun z => .tuple #[z, .bool false]) (.returned (.tuple #[tv K A n c F m d, .bool false])) ((((w3.setCell ⟨g + 1, 0, none⟩ (.int .i64 K)).setCell ⟨g + 1, 1, none⟩ (.slice A n c)).setCell ⟨g + 1, 2, none⟩ (.slice F m d))) from
    ⟨A, n, c, F, m, d, rfl, ⟨row_kept D3.out.row k7 (fun x hx e => row_off D3.out.row T3.out.r.blk (by decide) (e ▸ hx)), row_kept D3.out.fre k7 (fun x hx e => row_off D3.out.fre T3.out.r.blk (by decide) (e ▸ hx))⟩, below_put T3.out.b (by have := T3.out.l; omega) _ _ _, fun x hx => .inl hx, fun x hx => .inl hx⟩)
  clear k7
  go_wp2_with fail
  have v0 := T7h.out.c0
  have v1 := T7h.out.c1
  have v2 := T7h.out.c2
  refine bodyPost_ret (v := .tuple #[tv K A n c F m d, .bool false]) ?_ rfl ?_
  · simp [results, go_sem, v0, v1, v2]
  · exact RES.out

set_option maxHeartbeats 8000000 in
theorem rset_some (w : World) (B : Nat) (K : Int) (S : M.Tt Int) (A : Option Addr) (n c : Nat) (F : Option Addr) (m d : Nat) (h : Doc13 w B S A n c F m d) (hB : B ≤ w.heap.size) (hok : S.Ok K) (hl : S.s.length ≤ 1000000) (hh : Nat) (h64 : hh < 18446744073709551616) (v : Int) {i : Nat} (hi : S.liv K hh = some i) :
    Calls Try.prog 14 #[tv K A n c F m d, .int .u64 (hh : Int), .int .i64 v] w (DGot13 w B K (S.set i v) A F (fun z => .tuple #[z, .bool true])) := by
  obtain ⟨u1, u2, e, he, hu, u3, u4⟩ := M.liv_some hi
  clear u1 u2 u3 u4
  have T2 := Lib.hid (two_new w K A n c F m d)
  obtain ⟨w2, hw2⟩ : ∃ y, y = (w.alloc (.cells #[.int .i64 K, .slice A n c, .slice F m d] 29)).alloc (.cells #[.int .i64 0, .slice none 0 0, .slice none 0 0] 29) := ⟨_, rfl⟩
  rw [← hw2] at T2
  obtain ⟨g, hg⟩ : ∃ y, y = w.heap.size := ⟨_, rfl⟩
  rw [← hg] at T2
  have HW := Lib.hid hw2
  have HG := Lib.hid hg
  have HBQ := Lib.hid hB
  have D2 := Lib.hid (h.below T2.out.b)
  have LV := Lib.hid (rlive_any w2 B K S A n c F m d D2.out hok (by omega) hh h64)
  have x0 := T2.out.t.c0
  have x1 := T2.out.t.c1
  have x2 := T2.out.t.c2
  have HLI := Lib.hid (show M.livI K S hh = (i : Int) by unfold M.livI; rw [hi])
  have hset : S.set i v = ⟨S.s.set i ⟨true, e.g, v⟩, S.f⟩ := by unfold M.Tt.set; rw [he]
  have hil := (List.getElem?_eq_some_iff.1 he).1
  have hput : M.putAt S.s i ⟨true, e.g, v⟩ = S.s.set i ⟨true, e.g, v⟩ := by unfold M.putAt; rw [if_pos hil]
  rw [hset]
  have HE := Lib.hid (show S.s[i]? = some e ∧ e.u = true ∧ i ≤ S.s.length ∧ S.s.length ≤ 1000000 from ⟨he, hu, by omega, hl⟩)
  have HPUT := M.Shut13.mk hput
  have hn := h.n_eq
  have hin6 : i ≤ 1000000 := by omega
  clear h hB hok hl hw2 hg hi hset hil hput he hu hn
  go_enter Try.func14, Try.ntmps14
  go_upto_region 1 with fail
  rw [← HW.out, ← HG.out]
  go_wp2_with fail
  refine LV.out.mono ?_
  rintro _ w3 ⟨rfl, b3⟩
  rw [HLI.out]
  have T3 := Lib.hid (T2.out.below b3)
  have D3 := Lib.hid (D2.out.below b3)
  clear x0 x1 x2 b3
  have x0 := T3.out.t.c0
  have x1 := T3.out.t.c1
  have x2 := T3.out.t.c2
  obtain ⟨ge, rfl, hin, enl, q0, q1, q2⟩ := e_cells D3.out.row HE.out.1
  obtain ⟨gn, hgn⟩ : ∃ y, e.g = y := ⟨_, rfl⟩
  rw [hgn] at q2 HPUT
  rw [HE.out.2.1] at q1
  have HGN := Lib.hid hgn
  obtain ⟨w4, hw4⟩ : ∃ y, y = w3.alloc (.cells #[.int .i64 e.v, .bool true, .int .i64 (gn : Int)] 41) := ⟨_, rfl⟩
  have b4 : Below w3.heap.size w3 w4 := by rw [hw4]; exact (Below.refl _ _).alloc (Nat.le_refl _) _
  obtain ⟨y, hy⟩ : ∃ y, y = w3.heap.size := ⟨_, rfl⟩
  have h0 : w4.cell? ⟨y, 0, none⟩ = some (.int .i64 e.v) := by rw [hw4, hy, World.cell?_alloc_mark]; rfl
  have h1 : w4.cell? ⟨y, 1, none⟩ = some (.bool true) := by rw [hw4, hy, World.cell?_alloc_mark]; rfl
  have h2 : w4.cell? ⟨y, 2, none⟩ = some (.int .i64 (gn : Int)) := by rw [hw4, hy, World.cell?_alloc_mark]; rfl
  have hf : w4.frozen? ⟨y, 0, none⟩ = false := by rw [hw4, hy, World.frozen?_alloc_mark]; simp
  have T4 := Lib.hid (T3.out.below b4)
  have D4 := Lib.hid (D3.out.below b4)
  have HW4 := Lib.hid hw4
  have HY := Lib.hid hy
  have HYB := Lib.hid (show w.heap.size ≤ y ∧ g ≠ y ∧ g + 1 ≠ y ∧ ge ≠ y from by
    have h3 := T3.out.b.size
    have h4 := T3.out.t.lt
    have h5 := T3.out.r.lt
    have h6 := lt_of_cell q0
    simp only at h6
    refine ⟨by omega, by omega, by omega, by omega⟩)
  have HYF := Lib.hid (show ∀ x, rowD F x → x ≠ y from fun x hx => by have := (row_low D3.out.fre hx).2; omega)
  clear hgn hw4 hy b4 enl
  go_upto_region 5 with fail
  rw [← HW4.out, ← HY.out]
  clear q0 q1 q2
  obtain ⟨w5, hw5⟩ : ∃ z, z = w4.setCell ⟨y, 0, none⟩ (.int .i64 v) := ⟨_, rfl⟩
  have k5 : Kept w4 w5 (fun x => x = y) := by rw [hw5]; exact (Kept.refl w4 (fun x => x = y)).setCell (p := ⟨y, 0, none⟩) (fun _ => rfl) _
  have j0 : w5.cell? ⟨y, 0, none⟩ = some (.int .i64 v) := by rw [hw5]; exact World.cell?_setCell_same _ _ _ h0
  have j1 : w5.cell? ⟨y, 1, none⟩ = some (.bool true) := by rw [hw5, World.cell?_setCell_other _ _ _ _ (by simp)]; exact h1
  have j2 : w5.cell? ⟨y, 2, none⟩ = some (.int .i64 (gn : Int)) := by rw [hw5, World.cell?_setCell_other _ _ _ _ (by simp)]; exact h2
  have T5 := Lib.hid (show Two13 w w5 g K (some ⟨ge, 0, none⟩) n c F m d from ⟨T4.out.t.kept k5 HYB.out.2.1, T4.out.r.kept k5 HYB.out.2.2.1, T4.out.b.trans (k5.below T4.out.b.size (fun x hx => by have := HYB.out.1; omega)), T4.out.l⟩)
  have D5 := Lib.hid (D4.out.kept k5 (fun x hx => by rw [rowD_some hx]; exact HYB.out.2.2.2) HYF.out)
  go_upto_region 6 with fail
  rw [← hw5]
  clear x0 x1 x2 h0 h1 h2 hf hw5 k5
  have x0 := T5.out.t.c0
  have x1 := T5.out.t.c1
  have x2 := T5.out.t.c2
  go_wp2_with fail
  refine (with_any w5 B K (some ⟨ge, 0, none⟩) n c F m d S.s i ⟨true, gn, v⟩ D5.out.row HE.out.2.2.1 HE.out.2.2.2).mono ?_
  rintro _ w6 ⟨A6, n6, c6, rfl, r6, b6⟩
  have T6 := Lib.hid (T5.out.below b6)
  have F6 := Lib.hid (row_below D5.out.fre b6)
  have R6 := Lib.hid (r6.mono (Nat.le_trans HBQ.out T5.out.b.size))
  have L6 := Lib.hid (show ∀ x, rowD A6 x → w5.heap.size ≤ x from fun x hx => (row_low r6 hx).1)
  clear x0 x1 x2 r6 b6 j0 j1 j2
  have f0 := T6.out.r.frz 0
  have f1 := T6.out.r.frz 1
  have f2 := T6.out.r.frz 2
  have u0 := T6.out.r.c0
  have u1 := T6.out.r.c1
  have u2 := T6.out.r.c2
  have T7h := Lib.hid (T6.out.r.put K A6 n6 c6 F m d)
  have k7 := kept_put (g := g + 1) w6 (.int .i64 K) (.slice A6 n6 c6) (.slice F m d)
  have RES := Lib.hid (show DGot13 w B K ⟨S.s.set i ⟨true, gn, v⟩, S.f⟩ (some ⟨ge, 0, none⟩) F (fun z => .tuple #[z, .bool true]) (.returned (.tuple #[tv K A6 n6 c6 F m d, .bool true])) ((((w6.setCell ⟨g + 1, 0, none⟩ (.int .i64 K)).setCell ⟨g + 1, 1, none⟩ (.slice A6 n6 c6)).setCell ⟨g + 1, 2, none⟩ (.slice F m d))) from
    ⟨A6, n6, c6, F, m, d, rfl, ⟨by rw [← HPUT.out]; exact row_kept R6.out k7 (fun x hx e => row_off R6.out T6.out.r.blk (by decide) (e ▸ hx)), row_kept F6.out k7 (fun x hx e => row_off F6.out T6.out.r.blk (by decide) (e ▸ hx))⟩, below_put T6.out.b (by have := T6.out.l; omega) _ _ _, fun x hx => .inr (Nat.le_trans T5.out.b.size (L6.out x hx)), fun x hx => .inl hx⟩)
  clear k7
  go_wp2_with fail
  have v0 := T7h.out.c0
  have v1 := T7h.out.c1
  have v2 := T7h.out.c2
  refine bodyPost_ret (v := .tuple #[tv K A6 n6 c6 F m d, .bool true]) ?_ rfl ?_
  · simp [results, go_sem, v0, v1, v2]
  · have RR := RES.out
    rw [← HGN.out] at RR
    exact RR

set_option maxHeartbeats 8000000 in
theorem rdrop_some (w : World) (B : Nat) (K : Int) (S : M.Tt Int) (A : Option Addr) (n c : Nat) (F : Option Addr) (m d : Nat) (h : Doc13 w B S A n c F m d) (hB : B ≤ w.heap.size) (hok : S.Ok K) (hl : S.s.length ≤ 900000) (hh : Nat) (h64 : hh < 18446744073709551616) {i : Nat} (hi : S.liv K hh = some i) :
    Calls Try.prog 16 #[tv K A n c F m d, .int .u64 (hh : Int)] w (DGot13 w B K (S.drop 0 i) A F (fun z => .tuple #[z, .bool true])) := by
  obtain ⟨u1, u2, e, he, hu, u3, u4⟩ := M.liv_some hi
  clear u1 u2 u3 u4
  have T2 := Lib.hid (two_new w K A n c F m d)
  obtain ⟨w2, hw2⟩ : ∃ y, y = (w.alloc (.cells #[.int .i64 K, .slice A n c, .slice F m d] 29)).alloc (.cells #[.int .i64 0, .slice none 0 0, .slice none 0 0] 29) := ⟨_, rfl⟩
  rw [← hw2] at T2
  obtain ⟨g, hg⟩ : ∃ y, y = w.heap.size := ⟨_, rfl⟩
  rw [← hg] at T2
  have HW := Lib.hid hw2
  have HG := Lib.hid hg
  have HBQ := Lib.hid hB
  have D2 := Lib.hid (h.below T2.out.b)
  have LV := Lib.hid (rlive_any w2 B K S A n c F m d D2.out hok (by omega) hh h64)
  have x0 := T2.out.t.c0
  have x1 := T2.out.t.c1
  have x2 := T2.out.t.c2
  have HLI := Lib.hid (show M.livI K S hh = (i : Int) by unfold M.livI; rw [hi])
  obtain ⟨q, hq⟩ : ∃ q, M.nx e.g = q := ⟨_, rfl⟩
  have hset : S.drop 0 i = ⟨S.s.set i ⟨false, q, 0⟩, S.f ++ [i]⟩ := by unfold M.Tt.drop; rw [he]; show (⟨S.s.set i ⟨false, M.nx e.g, 0⟩, S.f ++ [i]⟩ : M.Tt Int) = _; rw [hq]
  have hil := (List.getElem?_eq_some_iff.1 he).1
  have hput : M.putAt S.s i ⟨false, q, 0⟩ = S.s.set i ⟨false, q, 0⟩ := by unfold M.putAt; rw [if_pos hil]
  rw [hset]
  have hgl := hok.gn i e he
  have hfl := hok.f_le
  have hm := h.m_eq
  have HE := Lib.hid (show S.s[i]? = some e ∧ i ≤ S.s.length ∧ S.s.length ≤ 1000000 from ⟨he, by omega, by omega⟩)
  have HPUT := M.Shut13.mk hput
  have hn := h.n_eq
  have hin6 : i ≤ 1000000 := by omega
  have hm6 : m ≤ 900000 := by omega
  have hnx : M.hnV (e.g : Int) = (q : Int) := by rw [M.nx_hn, hq]
  have HNX := M.Shut13.mk hnx
  clear h hB hok hl hw2 hg hi hset hil hput he hu hn hfl hm hq hnx
  go_enter Try.func16, Try.ntmps16
  go_upto_region 1 with fail
  rw [← HW.out, ← HG.out]
  go_wp2_with fail
  refine LV.out.mono ?_
  rintro _ w3 ⟨rfl, b3⟩
  rw [HLI.out]
  have T3 := Lib.hid (T2.out.below b3)
  have D3 := Lib.hid (D2.out.below b3)
  clear x0 x1 x2 b3
  have x0 := T3.out.t.c0
  have x1 := T3.out.t.c1
  have x2 := T3.out.t.c2
  obtain ⟨ge, rfl, hin, enl, q0, q1, q2⟩ := e_cells D3.out.row HE.out.1
  obtain ⟨gn, hgn⟩ : ∃ y, e.g = y := ⟨_, rfl⟩
  rw [hgn] at q2 HNX hgl
  have q2d : w3.drew.cell? ⟨ge, i * 3 + 2, none⟩ = some (.int .i64 (gn : Int)) := q2
  have HNG := Lib.hid (show g ≠ ge from fun e => row_off D3.out.row T3.out.t.blk (by decide) (e ▸ (⟨_, rfl, rfl⟩ : rowD (some ⟨ge, 0, none⟩) ge)))
  clear hgn q0 q1 enl
  have HCN := Lib.hid (fun W => rhnext_at (ig := (gn : Int)) (gn : Int) (q : Int) rfl (by omega) (by omega) HNX.out W)
  have HCW := Lib.hid (with_any w3.drew B K (some ⟨ge, 0, none⟩) n c F m d S.s i ⟨false, q, 0⟩ (row_below D3.out.row (Below.refl w3.heap.size w3).drew) HE.out.2.1 HE.out.2.2)
  go_wp2_with fail
  refine wp_region_noPanic ?_
  refine wp_region_held_drew (S := fun W => W.cell? ⟨ge, i * 3 + 2, none⟩ = some (.int .i64 (gn : Int))) (by kernel_rfl) (q2d) (fun hHeld => ?_)
  refine tkC 1 (some 15) (Op.move (Operand.tmp 6)) 3 (v := ?_) rfl (by decide +kernel) (by kernel_rfl) ?_ ‹_› ?_
  rotate_left
  ·(intro w hSw; (try dsimp only at hSw); go_simp) <;> with_reducible rfl
  (try simp only [Act.put, List.setIfInBounds_toArray, List.set_cons_zero, List.set_cons_succ])
  refine tkC 2 (some 16) (Op.fieldAddr 29 (Operand.tmp 2) 1) 0 (v := ?_) rfl (by decide +kernel) (by kernel_rfl) ?_ ‹_› ?_
  rotate_left
  ·(intro w hSw; (try dsimp only at hSw); go_simp) <;> with_reducible rfl
  (try simp only [Act.put, List.setIfInBounds_toArray, List.set_cons_zero, List.set_cons_succ])
  refine tkC 4 (some 18) (Op.move (Operand.tmp 6)) 3 (v := ?_) rfl (by decide +kernel) (by kernel_rfl) ?_ ‹_› ?_
  rotate_left
  ·(intro w hSw; (try dsimp only at hSw); go_simp) <;> with_reducible rfl
  (try simp only [Act.put, List.setIfInBounds_toArray, List.set_cons_zero, List.set_cons_succ])
  refine rdA (rs := [0, 3]) (by decide +kernel) ?_ rfl
  refine rcA (some 14) (Op.load 29 (Operand.tmp 2)) 29 rfl (by kernel_rfl) (fun K hK => ?_) ?_
  ·go_simp
   refine hK.out _ _ ?_ (fun hHeld => ?_)
   · exact q2d
   clear hK K
   (try simp only [Act.put, List.setIfInBounds_toArray, List.set_cons_zero, List.set_cons_succ])
   refine rdA (rs := [3]) (by decide +kernel) ?_ rfl
   refine rcA (some 17) (Op.load 26 (Operand.tmp 16)) 26 rfl (by kernel_rfl) (fun K hK => ?_) ?_
   ·go_simp
    refine hK.out _ _ ?_ (fun hHeld => ?_)
    · exact q2d
    clear hK K
    (try simp only [Act.put, List.setIfInBounds_toArray, List.set_cons_zero, List.set_cons_succ])
    refine tkC 5 (some 19) (Op.indexAddr 26 (Operand.tmp 17) (Operand.tmp 18)) 0 (v := ?_) rfl (by decide +kernel) (by kernel_rfl) ?_ ‹_› ?_
    rotate_left
    ·(intro w hSw; (try dsimp only at hSw); go_simp) <;> with_reducible rfl
    (try simp only [Act.put, List.setIfInBounds_toArray, List.set_cons_zero, List.set_cons_succ])
    refine tkC 6 (some 20) (Op.fieldAddr 41 (Operand.tmp 19) 2) 0 (v := ?_) rfl (by decide +kernel) (by kernel_rfl) ?_ ‹_› ?_
    rotate_left
    ·(intro w hSw; (try dsimp only at hSw); go_simp) <;> with_reducible rfl
    (try simp only [Act.put, List.setIfInBounds_toArray, List.set_cons_zero, List.set_cons_succ])
    refine tkC 7 (some 21) (Op.load 3 (Operand.tmp 20)) 3 (v := ?_) rfl (by decide +kernel) (by kernel_rfl) ?_ ‹_› ?_
    rotate_left
    ·(intro w hSw; (try dsimp only at hSw); go_simp) <;> with_reducible rfl
    (try simp only [Act.put, List.setIfInBounds_toArray, List.set_cons_zero, List.set_cons_succ])
    refine rdA (rs := [8]) (by decide +kernel) ?_ rfl
    refine rcA (some 22) (Op.call { callee := Callee.value (Operand.func 39), args := #[Operand.tmp 21], argTypes := #[3] }) 3 rfl (by kernel_rfl) (fun K hK => ?_) ?_
    ·go_simp
     refine (HCN.out _).mono ?_
     rintro _ _ ⟨rfl, rfl⟩
     go_wp2_with fail
     refine hK.out _ _ ?_ (fun hHeld => ?_)
     · exact q2d
     clear hK K
     (try simp only [Act.put, List.setIfInBounds_toArray, List.set_cons_zero, List.set_cons_succ])
     refine tkC 9 (some 23) (Op.build 41 #[(2, Operand.tmp 22)]) 41 (v := ?_) rfl (by decide +kernel) (by kernel_rfl) ?_ ‹_› ?_
     rotate_left
     ·(intro w hSw; (try dsimp only at hSw); go_simp) <;> with_reducible rfl
     (try simp only [Act.put, List.setIfInBounds_toArray, List.set_cons_zero, List.set_cons_succ])
     refine rdA (rs := [10]) (by decide +kernel) ?_ rfl
     refine rcA (some 24) (Op.call { callee := Callee.value (Operand.func 35), args := #[Operand.tmp 14, Operand.tmp 15, Operand.tmp 23], argTypes := #[29, 3, 41] }) 29 rfl (by kernel_rfl) (fun K hK => ?_) ?_
     ·go_simp
      refine HCW.out.mono ?_
      rintro _ w6 ⟨A6, n6, c6, rfl, r6, b6⟩
      have HR6 := Lib.hid r6
      have HB6 := Lib.hid b6
      have T6 := Lib.hid ((T3.out.below (Below.refl w3.heap.size w3).drew).below b6)
      have x0' := T6.out.t.c0
      have x1' := T6.out.t.c1
      have x2' := T6.out.t.c2
      have q2' := (b6.cell (lt_of_cell q2d)).trans q2d
      have ff0 := T6.out.t.frz 0
      have ff1 := T6.out.t.frz 1
      have ff2 := T6.out.t.frz 2
      clear r6 b6
      go_wp2_with fail
      refine hK.out _ _ ?_ (fun hHeld => ?_)
      · exact q2'
      clear hK K
      (try simp only [Act.put, List.setIfInBounds_toArray, List.set_cons_zero, List.set_cons_succ])
      refine rdA (rs := [11]) (by decide +kernel) ?_ rfl
      refine rcA none (Op.store 29 (Operand.tmp 2) (Operand.tmp 24)) 0 rfl (by kernel_rfl) (fun K hK => ?_) ?_
      ·go_simp
       refine hK.out _ _ ?_ (fun hHeld => ?_)
       · exact (cell_put3 w6 HNG.out _ _ _).trans q2'
       clear hK K
       (try simp only [Act.put, List.setIfInBounds_toArray, List.set_cons_zero, List.set_cons_succ])
       refine wpAnyH_done (by kernel_rfl) ?_ _
       refine NoPanic.normal ?_
       clear x0 x1 x2 q2 q2d x0' x1' x2' q2' ff0 ff1 ff2
       obtain ⟨w7, hw7⟩ : ∃ z, z = (((w6.setCell ⟨g, 0, none⟩ (.int .i64 K)).setCell ⟨g, 1, none⟩ (.slice A6 n6 c6)).setCell ⟨g, 2, none⟩ (.slice F m d)) := ⟨_, rfl⟩
       rw [← hw7]
       have k7 : Kept w6 w7 (fun x => x = g) := by rw [hw7]; exact kept_put w6 _ _ _
       have T7 := Lib.hid (show Two13 w w7 g K A6 n6 c6 F m d by rw [hw7]; exact T6.out.put)
       have R6 := HR6.out.mono (Nat.le_trans HBQ.out T3.out.b.size)
       have F6 := row_below (row_below D3.out.fre (Below.refl w3.heap.size w3).drew) HB6.out
       have R7 := Lib.hid (row_kept R6 k7 (fun x hx e => row_off R6 T6.out.t.blk (by decide) (e ▸ hx)))
       have F7 := Lib.hid (row_kept F6 k7 (fun x hx e => row_off F6 T6.out.t.blk (by decide) (e ▸ hx)))
       have L6 := Lib.hid (show ∀ x, rowD A6 x → w.heap.size ≤ x from fun x hx => Nat.le_trans T3.out.b.size (row_low HR6.out hx).1)
       clear hw7 k7 R6 F6
       have x0 := T7.out.t.c0
       have x1 := T7.out.t.c1
       have x2 := T7.out.t.c2
       have N7 := Lib.hid (World.ownsRow_nil w7 w7.heap.size 3 1)
       have LF := Lib.hid (lies_row F7.out)
       have HM := Lib.hid (show m = (nats S.f).length by rw [nats_length]; exact nats_len F7.out)
       go_upto_region 7 with (at_builtin; refine app_i rfl _ _ rfl w7 w7.heap.size none 0 0 [] rfl N7.out F m d (nats S.f) rfl HM.out LF.out (nats_one _) (by omega) (Nat.le_refl _) ?_; intro A8 c8 w8 hrow hk8 hat; rw [Nat.zero_add, List.nil_append] at hrow; (have R8 := Lib.hid hrow); (have K8 := Lib.hid (hk8.mono (O' := fun _ => False) (fun x _ hx => absurd hx rowD_none))); (have L8 := Lib.hid (show ∀ x, rowD A8 x → x = w7.heap.size from fun x hx => (hat x hx).resolve_left rowD_none)); clear hrow hk8 hat)
       have b78 : Below w7.heap.size w7 w8 := K8.out.below (Nat.le_refl _) (fun _ e => e.elim)
       have b9 := (Below.refl w8.heap.size w8).alloc (Nat.le_refl _) (.cells #[.int .i64 (i : Int)] 3)
       have T9 := Lib.hid ((T7.out.below b78).below b9)
       have R9 := Lib.hid (row_below R8.out b9)
       have E9 := Lib.hid (row_below (row_below R7.out b78) b9)
       have LN := Lib.hid (lies_new w8 (.int .i64 (i : Int)) 3)
       have S9 := Lib.hid (show w7.heap.size ≤ (w8.alloc (.cells #[.int .i64 (i : Int)] 3)).heap.size from Nat.le_trans b78.size b9.size)
       clear x0 x1 x2 b78 b9
       go_upto_region 8 with (at_builtin; refine app_i rfl _ _ rfl _ w7.heap.size A8 m c8 (nats S.f) rfl R9.out (some ⟨w8.heap.size, 0, none⟩) 1 1 [.int .i64 (i : Int)] rfl rfl LN.out (nats_one [i]) (by omega) S9.out ?_; intro A10 c10 w10 hrow hk10 hat; (have R10 := Lib.hid hrow); (have K10 := Lib.hid hk10); (have HA10 := Lib.hid hat); (have z2 : w10.cell? ⟨g, 2, none⟩ = some (.slice F m d) := (T9.out.t.kept hk10 (row_off R9.out T9.out.t.blk (by decide))).c2); (have zf : w10.frozen? ⟨g, 2, none⟩ = false := (T9.out.t.kept hk10 (row_off R9.out T9.out.t.blk (by decide))).frz 2); clear hrow hk10 hat)
       obtain ⟨w11, hw11⟩ : ∃ z, z = w10.setCell ⟨g, 2, none⟩ (.slice A10 (m + 1) c10) := ⟨_, rfl⟩
       rw [← hw11]
       have t10 := T9.out.t.kept K10.out (row_off R9.out T9.out.t.blk (by decide))
       have r10 := T9.out.r.kept K10.out (row_off R9.out T9.out.r.blk (by decide))
       have b10 := T9.out.b.trans (K10.out.below T9.out.b.size (fun x hx => Nat.le_trans T7.out.b.size (row_low R9.out hx).1))
       have k11 : Kept w10 w11 (fun x => x = g) := by rw [hw11]; exact (Kept.refl w10 (fun x => x = g)).setCell (p := ⟨g, 2, none⟩) (fun _ => rfl) _
       have T11 := Lib.hid (show Two13 w w11 g K A6 n6 c6 A10 (m + 1) c10 from ⟨by rw [hw11]; exact t10.set2 _ _ _, r10.kept k11 (by omega), b10.trans (k11.below b10.size (fun x hx => by have := T9.out.l; omega)), T9.out.l⟩)
       have e10 := row_kept E9.out K10.out (fun x hx => row_apart E9.out R9.out (by decide) hx)
       have E11 := Lib.hid (row_kept e10 k11 (fun x hx e => row_off e10 t10.blk (by decide) (e ▸ hx)))
       have F11 := Lib.hid ((row_kept R10.out k11 (fun x hx e => row_off R10.out t10.blk (by decide) (e ▸ hx))).mono (show B ≤ w7.heap.size from Nat.le_trans HBQ.out T7.out.b.size))
       have HF := Lib.hid (show ∀ x, rowD A10 x → w.heap.size ≤ x from fun x hx => by
         have h1 := T7.out.b.size
         rcases HA10.out x hx with e | e
         · have := (row_low R9.out e).1; omega
         · have := S9.out; omega)
       clear t10 r10 b10 k11 e10 hw11 z2 zf
       have x0 := T11.out.t.c0
       have x1 := T11.out.t.c1
       have x2 := T11.out.t.c2
       have f0 := T11.out.r.frz 0
       have f1 := T11.out.r.frz 1
       have f2 := T11.out.r.frz 2
       have u0 := T11.out.r.c0
       have u1 := T11.out.r.c1
       have u2 := T11.out.r.c2
       have T12h := Lib.hid (T11.out.r.put K A6 n6 c6 A10 (m + 1) c10)
       have k12 := kept_put (g := g + 1) w11 (.int .i64 K) (.slice A6 n6 c6) (.slice A10 (m + 1) c10)
       have RES := Lib.hid (show DGot13 w B K ⟨S.s.set i ⟨false, q, 0⟩, S.f ++ [i]⟩ (some ⟨ge, 0, none⟩) F (fun z => .tuple #[z, .bool true]) (.returned (.tuple #[tv K A6 n6 c6 A10 (m + 1) c10, .bool true])) ((((w11.setCell ⟨g + 1, 0, none⟩ (.int .i64 K)).setCell ⟨g + 1, 1, none⟩ (.slice A6 n6 c6)).setCell ⟨g + 1, 2, none⟩ (.slice A10 (m + 1) c10))) from
         ⟨A6, n6, c6, A10, m + 1, c10, rfl, ⟨by rw [← HPUT.out]; exact row_kept E11.out k12 (fun x hx e => row_off E11.out T11.out.r.blk (by decide) (e ▸ hx)), by show World.ownsRow _ _ _ _ _ _ (nats (S.f ++ [i])); rw [nats_append]; exact row_kept F11.out k12 (fun x hx e => row_off F11.out T11.out.r.blk (by decide) (e ▸ hx))⟩, below_put T11.out.b (by have := T11.out.l; omega) _ _ _, fun x hx => .inr (L6.out x hx), fun x hx => .inr (HF.out x hx)⟩)
       clear k12
       go_wp2_with fail
       have v0 := T12h.out.c0
       have v1 := T12h.out.c1
       have v2 := T12h.out.c2
       refine bodyPost_ret (v := .tuple #[tv K A6 n6 c6 A10 (m + 1) c10, .bool true]) ?_ rfl ?_
       · simp [results, go_sem, v0, v1, v2]
       · exact RES.out
      exact AllReadyH.nil
     exact AllReadyH.nil
    exact AllReadyH.nil
   exact AllReadyH.nil
  refine rcA (some 17) (Op.load 26 (Operand.tmp 16)) 26 rfl (by kernel_rfl) (fun K hK => ?_) ?_
  ·go_simp
   refine hK.out _ _ ?_ (fun hHeld => ?_)
   · exact q2d
   clear hK K
   (try simp only [Act.put, List.setIfInBounds_toArray, List.set_cons_zero, List.set_cons_succ])
   refine tkC 5 (some 19) (Op.indexAddr 26 (Operand.tmp 17) (Operand.tmp 18)) 0 (v := ?_) rfl (by decide +kernel) (by kernel_rfl) ?_ ‹_› ?_
   rotate_left
   ·(intro w hSw; (try dsimp only at hSw); go_simp) <;> with_reducible rfl
   (try simp only [Act.put, List.setIfInBounds_toArray, List.set_cons_zero, List.set_cons_succ])
   refine tkC 6 (some 20) (Op.fieldAddr 41 (Operand.tmp 19) 2) 0 (v := ?_) rfl (by decide +kernel) (by kernel_rfl) ?_ ‹_› ?_
   rotate_left
   ·(intro w hSw; (try dsimp only at hSw); go_simp) <;> with_reducible rfl
   (try simp only [Act.put, List.setIfInBounds_toArray, List.set_cons_zero, List.set_cons_succ])
   refine tkC 7 (some 21) (Op.load 3 (Operand.tmp 20)) 3 (v := ?_) rfl (by decide +kernel) (by kernel_rfl) ?_ ‹_› ?_
   rotate_left
   ·(intro w hSw; (try dsimp only at hSw); go_simp) <;> with_reducible rfl
   (try simp only [Act.put, List.setIfInBounds_toArray, List.set_cons_zero, List.set_cons_succ])
   refine rdA (rs := [0, 8]) (by decide +kernel) ?_ rfl
   refine rcA (some 14) (Op.load 29 (Operand.tmp 2)) 29 rfl (by kernel_rfl) (fun K hK => ?_) ?_
   ·go_simp
    refine hK.out _ _ ?_ (fun hHeld => ?_)
    · exact q2d
    clear hK K
    (try simp only [Act.put, List.setIfInBounds_toArray, List.set_cons_zero, List.set_cons_succ])
    refine rdA (rs := [8]) (by decide +kernel) ?_ rfl
    refine rcA (some 22) (Op.call { callee := Callee.value (Operand.func 39), args := #[Operand.tmp 21], argTypes := #[3] }) 3 rfl (by kernel_rfl) (fun K hK => ?_) ?_
    ·go_simp
     refine (HCN.out _).mono ?_
     rintro _ _ ⟨rfl, rfl⟩
     go_wp2_with fail
     refine hK.out _ _ ?_ (fun hHeld => ?_)
     · exact q2d
     clear hK K
     (try simp only [Act.put, List.setIfInBounds_toArray, List.set_cons_zero, List.set_cons_succ])
     refine tkC 9 (some 23) (Op.build 41 #[(2, Operand.tmp 22)]) 41 (v := ?_) rfl (by decide +kernel) (by kernel_rfl) ?_ ‹_› ?_
     rotate_left
     ·(intro w hSw; (try dsimp only at hSw); go_simp) <;> with_reducible rfl
     (try simp only [Act.put, List.setIfInBounds_toArray, List.set_cons_zero, List.set_cons_succ])
     refine rdA (rs := [10]) (by decide +kernel) ?_ rfl
     refine rcA (some 24) (Op.call { callee := Callee.value (Operand.func 35), args := #[Operand.tmp 14, Operand.tmp 15, Operand.tmp 23], argTypes := #[29, 3, 41] }) 29 rfl (by kernel_rfl) (fun K hK => ?_) ?_
     ·go_simp
      refine HCW.out.mono ?_
      rintro _ w6 ⟨A6, n6, c6, rfl, r6, b6⟩
      have HR6 := Lib.hid r6
      have HB6 := Lib.hid b6
      have T6 := Lib.hid ((T3.out.below (Below.refl w3.heap.size w3).drew).below b6)
      have x0' := T6.out.t.c0
      have x1' := T6.out.t.c1
      have x2' := T6.out.t.c2
      have q2' := (b6.cell (lt_of_cell q2d)).trans q2d
      have ff0 := T6.out.t.frz 0
      have ff1 := T6.out.t.frz 1
      have ff2 := T6.out.t.frz 2
      clear r6 b6
      go_wp2_with fail
      refine hK.out _ _ ?_ (fun hHeld => ?_)
      · exact q2'
      clear hK K
      (try simp only [Act.put, List.setIfInBounds_toArray, List.set_cons_zero, List.set_cons_succ])
      refine rdA (rs := [11]) (by decide +kernel) ?_ rfl
      refine rcA none (Op.store 29 (Operand.tmp 2) (Operand.tmp 24)) 0 rfl (by kernel_rfl) (fun K hK => ?_) ?_
      ·go_simp
       refine hK.out _ _ ?_ (fun hHeld => ?_)
       · exact (cell_put3 w6 HNG.out _ _ _).trans q2'
       clear hK K
       (try simp only [Act.put, List.setIfInBounds_toArray, List.set_cons_zero, List.set_cons_succ])
       refine wpAnyH_done (by kernel_rfl) ?_ _
       refine NoPanic.normal ?_
       clear x0 x1 x2 q2 q2d x0' x1' x2' q2' ff0 ff1 ff2
       obtain ⟨w7, hw7⟩ : ∃ z, z = (((w6.setCell ⟨g, 0, none⟩ (.int .i64 K)).setCell ⟨g, 1, none⟩ (.slice A6 n6 c6)).setCell ⟨g, 2, none⟩ (.slice F m d)) := ⟨_, rfl⟩
       rw [← hw7]
       have k7 : Kept w6 w7 (fun x => x = g) := by rw [hw7]; exact kept_put w6 _ _ _
       have T7 := Lib.hid (show Two13 w w7 g K A6 n6 c6 F m d by rw [hw7]; exact T6.out.put)
       have R6 := HR6.out.mono (Nat.le_trans HBQ.out T3.out.b.size)
       have F6 := row_below (row_below D3.out.fre (Below.refl w3.heap.size w3).drew) HB6.out
       have R7 := Lib.hid (row_kept R6 k7 (fun x hx e => row_off R6 T6.out.t.blk (by decide) (e ▸ hx)))
       have F7 := Lib.hid (row_kept F6 k7 (fun x hx e => row_off F6 T6.out.t.blk (by decide) (e ▸ hx)))
       have L6 := Lib.hid (show ∀ x, rowD A6 x → w.heap.size ≤ x from fun x hx => Nat.le_trans T3.out.b.size (row_low HR6.out hx).1)
       clear hw7 k7 R6 F6
       have x0 := T7.out.t.c0
       have x1 := T7.out.t.c1
       have x2 := T7.out.t.c2
       have N7 := Lib.hid (World.ownsRow_nil w7 w7.heap.size 3 1)
       have LF := Lib.hid (lies_row F7.out)
       have HM := Lib.hid (show m = (nats S.f).length by rw [nats_length]; exact nats_len F7.out)
       go_upto_region 7 with (at_builtin; refine app_i rfl _ _ rfl w7 w7.heap.size none 0 0 [] rfl N7.out F m d (nats S.f) rfl HM.out LF.out (nats_one _) (by omega) (Nat.le_refl _) ?_; intro A8 c8 w8 hrow hk8 hat; rw [Nat.zero_add, List.nil_append] at hrow; (have R8 := Lib.hid hrow); (have K8 := Lib.hid (hk8.mono (O' := fun _ => False) (fun x _ hx => absurd hx rowD_none))); (have L8 := Lib.hid (show ∀ x, rowD A8 x → x = w7.heap.size from fun x hx => (hat x hx).resolve_left rowD_none)); clear hrow hk8 hat)
       have b78 : Below w7.heap.size w7 w8 := K8.out.below (Nat.le_refl _) (fun _ e => e.elim)
       have b9 := (Below.refl w8.heap.size w8).alloc (Nat.le_refl _) (.cells #[.int .i64 (i : Int)] 3)
       have T9 := Lib.hid ((T7.out.below b78).below b9)
       have R9 := Lib.hid (row_below R8.out b9)
       have E9 := Lib.hid (row_below (row_below R7.out b78) b9)
       have LN := Lib.hid (lies_new w8 (.int .i64 (i : Int)) 3)
       have S9 := Lib.hid (show w7.heap.size ≤ (w8.alloc (.cells #[.int .i64 (i : Int)] 3)).heap.size from Nat.le_trans b78.size b9.size)
       clear x0 x1 x2 b78 b9
       go_upto_region 8 with (at_builtin; refine app_i rfl _ _ rfl _ w7.heap.size A8 m c8 (nats S.f) rfl R9.out (some ⟨w8.heap.size, 0, none⟩) 1 1 [.int .i64 (i : Int)] rfl rfl LN.out (nats_one [i]) (by omega) S9.out ?_; intro A10 c10 w10 hrow hk10 hat; (have R10 := Lib.hid hrow); (have K10 := Lib.hid hk10); (have HA10 := Lib.hid hat); (have z2 : w10.cell? ⟨g, 2, none⟩ = some (.slice F m d) := (T9.out.t.kept hk10 (row_off R9.out T9.out.t.blk (by decide))).c2); (have zf : w10.frozen? ⟨g, 2, none⟩ = false := (T9.out.t.kept hk10 (row_off R9.out T9.out.t.blk (by decide))).frz 2); clear hrow hk10 hat)
       obtain ⟨w11, hw11⟩ : ∃ z, z = w10.setCell ⟨g, 2, none⟩ (.slice A10 (m + 1) c10) := ⟨_, rfl⟩
       rw [← hw11]
       have t10 := T9.out.t.kept K10.out (row_off R9.out T9.out.t.blk (by decide))
       have r10 := T9.out.r.kept K10.out (row_off R9.out T9.out.r.blk (by decide))
       have b10 := T9.out.b.trans (K10.out.below T9.out.b.size (fun x hx => Nat.le_trans T7.out.b.size (row_low R9.out hx).1))
       have k11 : Kept w10 w11 (fun x => x = g) := by rw [hw11]; exact (Kept.refl w10 (fun x => x = g)).setCell (p := ⟨g, 2, none⟩) (fun _ => rfl) _
       have T11 := Lib.hid (show Two13 w w11 g K A6 n6 c6 A10 (m + 1) c10 from ⟨by rw [hw11]; exact t10.set2 _ _ _, r10.kept k11 (by omega), b10.trans (k11.below b10.size (fun x hx => by have := T9.out.l; omega)), T9.out.l⟩)
       have e10 := row_kept E9.out K10.out (fun x hx => row_apart E9.out R9.out (by decide) hx)
       have E11 := Lib.hid (row_kept e10 k11 (fun x hx e => row_off e10 t10.blk (by decide) (e ▸ hx)))
       have F11 := Lib.hid ((row_kept R10.out k11 (fun x hx e => row_off R10.out t10.blk (by decide) (e ▸ hx))).mono (show B ≤ w7.heap.size from Nat.le_trans HBQ.out T7.out.b.size))
       have HF := Lib.hid (show ∀ x, rowD A10 x → w.heap.size ≤ x from fun x hx => by
         have h1 := T7.out.b.size
         rcases HA10.out x hx with e | e
         · have := (row_low R9.out e).1; omega
         · have := S9.out; omega)
       clear t10 r10 b10 k11 e10 hw11 z2 zf
       have x0 := T11.out.t.c0
       have x1 := T11.out.t.c1
       have x2 := T11.out.t.c2
       have f0 := T11.out.r.frz 0
       have f1 := T11.out.r.frz 1
       have f2 := T11.out.r.frz 2
       have u0 := T11.out.r.c0
       have u1 := T11.out.r.c1
       have u2 := T11.out.r.c2
       have T12h := Lib.hid (T11.out.r.put K A6 n6 c6 A10 (m + 1) c10)
       have k12 := kept_put (g := g + 1) w11 (.int .i64 K) (.slice A6 n6 c6) (.slice A10 (m + 1) c10)
       have RES := Lib.hid (show DGot13 w B K ⟨S.s.set i ⟨false, q, 0⟩, S.f ++ [i]⟩ (some ⟨ge, 0, none⟩) F (fun z => .tuple #[z, .bool true]) (.returned (.tuple #[tv K A6 n6 c6 A10 (m + 1) c10, .bool true])) ((((w11.setCell ⟨g + 1, 0, none⟩ (.int .i64 K)).setCell ⟨g + 1, 1, none⟩ (.slice A6 n6 c6)).setCell ⟨g + 1, 2, none⟩ (.slice A10 (m + 1) c10))) from
         ⟨A6, n6, c6, A10, m + 1, c10, rfl, ⟨by rw [← HPUT.out]; exact row_kept E11.out k12 (fun x hx e => row_off E11.out T11.out.r.blk (by decide) (e ▸ hx)), by show World.ownsRow _ _ _ _ _ _ (nats (S.f ++ [i])); rw [nats_append]; exact row_kept F11.out k12 (fun x hx e => row_off F11.out T11.out.r.blk (by decide) (e ▸ hx))⟩, below_put T11.out.b (by have := T11.out.l; omega) _ _ _, fun x hx => .inr (L6.out x hx), fun x hx => .inr (HF.out x hx)⟩)
       clear k12
       go_wp2_with fail
       have v0 := T12h.out.c0
       have v1 := T12h.out.c1
       have v2 := T12h.out.c2
       refine bodyPost_ret (v := .tuple #[tv K A6 n6 c6 A10 (m + 1) c10, .bool true]) ?_ rfl ?_
       · simp [results, go_sem, v0, v1, v2]
       · exact RES.out
      exact AllReadyH.nil
     exact AllReadyH.nil
    exact AllReadyH.nil
   refine rcA (some 22) (Op.call { callee := Callee.value (Operand.func 39), args := #[Operand.tmp 21], argTypes := #[3] }) 3 rfl (by kernel_rfl) (fun K hK => ?_) ?_
   ·go_simp
    refine (HCN.out _).mono ?_
    rintro _ _ ⟨rfl, rfl⟩
    go_wp2_with fail
    refine hK.out _ _ ?_ (fun hHeld => ?_)
    · exact q2d
    clear hK K
    (try simp only [Act.put, List.setIfInBounds_toArray, List.set_cons_zero, List.set_cons_succ])
    refine tkC 9 (some 23) (Op.build 41 #[(2, Operand.tmp 22)]) 41 (v := ?_) rfl (by decide +kernel) (by kernel_rfl) ?_ ‹_› ?_
    rotate_left
    ·(intro w hSw; (try dsimp only at hSw); go_simp) <;> with_reducible rfl
    (try simp only [Act.put, List.setIfInBounds_toArray, List.set_cons_zero, List.set_cons_succ])
    refine rdA (rs := [0]) (by decide +kernel) ?_ rfl
    refine rcA (some 14) (Op.load 29 (Operand.tmp 2)) 29 rfl (by kernel_rfl) (fun K hK => ?_) ?_
    ·go_simp
     refine hK.out _ _ ?_ (fun hHeld => ?_)
     · exact q2d
     clear hK K
     (try simp only [Act.put, List.setIfInBounds_toArray, List.set_cons_zero, List.set_cons_succ])
     refine rdA (rs := [10]) (by decide +kernel) ?_ rfl
     refine rcA (some 24) (Op.call { callee := Callee.value (Operand.func 35), args := #[Operand.tmp 14, Operand.tmp 15, Operand.tmp 23], argTypes := #[29, 3, 41] }) 29 rfl (by kernel_rfl) (fun K hK => ?_) ?_
     ·go_simp
      refine HCW.out.mono ?_
      rintro _ w6 ⟨A6, n6, c6, rfl, r6, b6⟩
      have HR6 := Lib.hid r6
      have HB6 := Lib.hid b6
      have T6 := Lib.hid ((T3.out.below (Below.refl w3.heap.size w3).drew).below b6)
      have x0' := T6.out.t.c0
      have x1' := T6.out.t.c1
      have x2' := T6.out.t.c2
      have q2' := (b6.cell (lt_of_cell q2d)).trans q2d
      have ff0 := T6.out.t.frz 0
      have ff1 := T6.out.t.frz 1
      have ff2 := T6.out.t.frz 2
      clear r6 b6
      go_wp2_with fail
      refine hK.out _ _ ?_ (fun hHeld => ?_)
      · exact q2'
      clear hK K
      (try simp only [Act.put, List.setIfInBounds_toArray, List.set_cons_zero, List.set_cons_succ])
      refine rdA (rs := [11]) (by decide +kernel) ?_ rfl
      refine rcA none (Op.store 29 (Operand.tmp 2) (Operand.tmp 24)) 0 rfl (by kernel_rfl) (fun K hK => ?_) ?_
      ·go_simp
       refine hK.out _ _ ?_ (fun hHeld => ?_)
       · exact (cell_put3 w6 HNG.out _ _ _).trans q2'
       clear hK K
       (try simp only [Act.put, List.setIfInBounds_toArray, List.set_cons_zero, List.set_cons_succ])
       refine wpAnyH_done (by kernel_rfl) ?_ _
       refine NoPanic.normal ?_
       clear x0 x1 x2 q2 q2d x0' x1' x2' q2' ff0 ff1 ff2
       obtain ⟨w7, hw7⟩ : ∃ z, z = (((w6.setCell ⟨g, 0, none⟩ (.int .i64 K)).setCell ⟨g, 1, none⟩ (.slice A6 n6 c6)).setCell ⟨g, 2, none⟩ (.slice F m d)) := ⟨_, rfl⟩
       rw [← hw7]
       have k7 : Kept w6 w7 (fun x => x = g) := by rw [hw7]; exact kept_put w6 _ _ _
       have T7 := Lib.hid (show Two13 w w7 g K A6 n6 c6 F m d by rw [hw7]; exact T6.out.put)
       have R6 := HR6.out.mono (Nat.le_trans HBQ.out T3.out.b.size)
       have F6 := row_below (row_below D3.out.fre (Below.refl w3.heap.size w3).drew) HB6.out
       have R7 := Lib.hid (row_kept R6 k7 (fun x hx e => row_off R6 T6.out.t.blk (by decide) (e ▸ hx)))
       have F7 := Lib.hid (row_kept F6 k7 (fun x hx e => row_off F6 T6.out.t.blk (by decide) (e ▸ hx)))
       have L6 := Lib.hid (show ∀ x, rowD A6 x → w.heap.size ≤ x from fun x hx => Nat.le_trans T3.out.b.size (row_low HR6.out hx).1)
       clear hw7 k7 R6 F6
       have x0 := T7.out.t.c0
       have x1 := T7.out.t.c1
       have x2 := T7.out.t.c2
       have N7 := Lib.hid (World.ownsRow_nil w7 w7.heap.size 3 1)
       have LF := Lib.hid (lies_row F7.out)
       have HM := Lib.hid (show m = (nats S.f).length by rw [nats_length]; exact nats_len F7.out)
       go_upto_region 7 with (at_builtin; refine app_i rfl _ _ rfl w7 w7.heap.size none 0 0 [] rfl N7.out F m d (nats S.f) rfl HM.out LF.out (nats_one _) (by omega) (Nat.le_refl _) ?_; intro A8 c8 w8 hrow hk8 hat; rw [Nat.zero_add, List.nil_append] at hrow; (have R8 := Lib.hid hrow); (have K8 := Lib.hid (hk8.mono (O' := fun _ => False) (fun x _ hx => absurd hx rowD_none))); (have L8 := Lib.hid (show ∀ x, rowD A8 x → x = w7.heap.size from fun x hx => (hat x hx).resolve_left rowD_none)); clear hrow hk8 hat)
       have b78 : Below w7.heap.size w7 w8 := K8.out.below (Nat.le_refl _) (fun _ e => e.elim)
       have b9 := (Below.refl w8.heap.size w8).alloc (Nat.le_refl _) (.cells #[.int .i64 (i : Int)] 3)
       have T9 := Lib.hid ((T7.out.below b78).below b9)
       have R9 := Lib.hid (row_below R8.out b9)
       have E9 := Lib.hid (row_below (row_below R7.out b78) b9)
       have LN := Lib.hid (lies_new w8 (.int .i64 (i : Int)) 3)
       have S9 := Lib.hid (show w7.heap.size ≤ (w8.alloc (.cells #[.int .i64 (i : Int)] 3)).heap.size from Nat.le_trans b78.size b9.size)
       clear x0 x1 x2 b78 b9
       go_upto_region 8 with (at_builtin; refine app_i rfl _ _ rfl _ w7.heap.size A8 m c8 (nats S.f) rfl R9.out (some ⟨w8.heap.size, 0, none⟩) 1 1 [.int .i64 (i : Int)] rfl rfl LN.out (nats_one [i]) (by omega) S9.out ?_; intro A10 c10 w10 hrow hk10 hat; (have R10 := Lib.hid hrow); (have K10 := Lib.hid hk10); (have HA10 := Lib.hid hat); (have z2 : w10.cell? ⟨g, 2, none⟩ = some (.slice F m d) := (T9.out.t.kept hk10 (row_off R9.out T9.out.t.blk (by decide))).c2); (have zf : w10.frozen? ⟨g, 2, none⟩ = false := (T9.out.t.kept hk10 (row_off R9.out T9.out.t.blk (by decide))).frz 2); clear hrow hk10 hat)
       obtain ⟨w11, hw11⟩ : ∃ z, z = w10.setCell ⟨g, 2, none⟩ (.slice A10 (m + 1) c10) := ⟨_, rfl⟩
       rw [← hw11]
       have t10 := T9.out.t.kept K10.out (row_off R9.out T9.out.t.blk (by decide))
       have r10 := T9.out.r.kept K10.out (row_off R9.out T9.out.r.blk (by decide))
       have b10 := T9.out.b.trans (K10.out.below T9.out.b.size (fun x hx => Nat.le_trans T7.out.b.size (row_low R9.out hx).1))
       have k11 : Kept w10 w11 (fun x => x = g) := by rw [hw11]; exact (Kept.refl w10 (fun x => x = g)).setCell (p := ⟨g, 2, none⟩) (fun _ => rfl) _
       have T11 := Lib.hid (show Two13 w w11 g K A6 n6 c6 A10 (m + 1) c10 from ⟨by rw [hw11]; exact t10.set2 _ _ _, r10.kept k11 (by omega), b10.trans (k11.below b10.size (fun x hx => by have := T9.out.l; omega)), T9.out.l⟩)
       have e10 := row_kept E9.out K10.out (fun x hx => row_apart E9.out R9.out (by decide) hx)
       have E11 := Lib.hid (row_kept e10 k11 (fun x hx e => row_off e10 t10.blk (by decide) (e ▸ hx)))
       have F11 := Lib.hid ((row_kept R10.out k11 (fun x hx e => row_off R10.out t10.blk (by decide) (e ▸ hx))).mono (show B ≤ w7.heap.size from Nat.le_trans HBQ.out T7.out.b.size))
       have HF := Lib.hid (show ∀ x, rowD A10 x → w.heap.size ≤ x from fun x hx => by
         have h1 := T7.out.b.size
         rcases HA10.out x hx with e | e
         · have := (row_low R9.out e).1; omega
         · have := S9.out; omega)
       clear t10 r10 b10 k11 e10 hw11 z2 zf
       have x0 := T11.out.t.c0
       have x1 := T11.out.t.c1
       have x2 := T11.out.t.c2
       have f0 := T11.out.r.frz 0
       have f1 := T11.out.r.frz 1
       have f2 := T11.out.r.frz 2
       have u0 := T11.out.r.c0
       have u1 := T11.out.r.c1
       have u2 := T11.out.r.c2
       have T12h := Lib.hid (T11.out.r.put K A6 n6 c6 A10 (m + 1) c10)
       have k12 := kept_put (g := g + 1) w11 (.int .i64 K) (.slice A6 n6 c6) (.slice A10 (m + 1) c10)
       have RES := Lib.hid (show DGot13 w B K ⟨S.s.set i ⟨false, q, 0⟩, S.f ++ [i]⟩ (some ⟨ge, 0, none⟩) F (fun z => .tuple #[z, .bool true]) (.returned (.tuple #[tv K A6 n6 c6 A10 (m + 1) c10, .bool true])) ((((w11.setCell ⟨g + 1, 0, none⟩ (.int .i64 K)).setCell ⟨g + 1, 1, none⟩ (.slice A6 n6 c6)).setCell ⟨g + 1, 2, none⟩ (.slice A10 (m + 1) c10))) from
         ⟨A6, n6, c6, A10, m + 1, c10, rfl, ⟨by rw [← HPUT.out]; exact row_kept E11.out k12 (fun x hx e => row_off E11.out T11.out.r.blk (by decide) (e ▸ hx)), by show World.ownsRow _ _ _ _ _ _ (nats (S.f ++ [i])); rw [nats_append]; exact row_kept F11.out k12 (fun x hx e => row_off F11.out T11.out.r.blk (by decide) (e ▸ hx))⟩, below_put T11.out.b (by have := T11.out.l; omega) _ _ _, fun x hx => .inr (L6.out x hx), fun x hx => .inr (HF.out x hx)⟩)
       clear k12
       go_wp2_with fail
       have v0 := T12h.out.c0
       have v1 := T12h.out.c1
       have v2 := T12h.out.c2
       refine bodyPost_ret (v := .tuple #[tv K A6 n6 c6 A10 (m + 1) c10, .bool true]) ?_ rfl ?_
       · simp [results, go_sem, v0, v1, v2]
       · exact RES.out
      exact AllReadyH.nil
     exact AllReadyH.nil
    exact AllReadyH.nil
   exact AllReadyH.nil
  exact AllReadyH.nil
end Go.Proofs.Ytbkdlblpoohliaa
