/-
  The document's Add.
-/
import Derived.Test.YtbkdlblpoohliaaDl13
import Derived.Test.YtbkdlblpoohliaaSq
namespace Go.Proofs.Ytbkdlblpoohliaa
open Go.ChangeShapes Go.WideShapes Go.ChangeAt Go.RowKit Go.Deep T13
set_option linter.unusedVariables false
set_option maxRecDepth 20000

/-- What a call of the document's answers: a table, and more. -/
def DGot13 (w : World) (B : Nat) (K : Int) (S' : M.Tt Int) (A F : Option Addr) (f : Value → Value) (e : Ending) (w' : World) : Prop :=
  ∃ A' n' c' F' m' d', e = .returned (f (tv K A' n' c' F' m' d')) ∧ Doc13 w' B S' A' n' c' F' m' d' ∧ Below w.heap.size w w' ∧ (∀ x, rowD A' x → rowD A x ∨ w.heap.size ≤ x) ∧ (∀ x, rowD F' x → rowD F x ∨ w.heap.size ≤ x)
/-- Two variables of one's own: a table's, and the answer's. -/
structure Two13 (w w2 : World) (g : Nat) (K : Int) (A : Option Addr) (n c : Nat) (F : Option Addr) (m d : Nat) : Prop where
  t : Bt w2 g K A n c F m d
  r : Bt w2 (g + 1) 0 none 0 0 none 0 0
  b : Below w.heap.size w w2
  l : w.heap.size ≤ g
theorem two_new (w : World) (K : Int) (A : Option Addr) (n c : Nat) (F : Option Addr) (m d : Nat) :
    Two13 w ((w.alloc (.cells #[.int .i64 K, .slice A n c, .slice F m d] 29)).alloc (.cells #[.int .i64 0, .slice none 0 0, .slice none 0 0] 29)) w.heap.size K A n c F m d := by
  have b1 : Below w.heap.size w (w.alloc (.cells #[.int .i64 K, .slice A n c, .slice F m d] 29)) := (Below.refl _ _).alloc (Nat.le_refl _) _
  have s1 : (w.alloc (.cells #[.int .i64 K, .slice A n c, .slice F m d] 29)).heap.size = w.heap.size + 1 := by simp
  refine ⟨(Bt.new w K A n c F m d).alloc _, ?_, below_call b1 ((Below.refl _ _).alloc (Nat.le_refl _) _), Nat.le_refl _⟩
  have := Bt.new (w.alloc (.cells #[.int .i64 K, .slice A n c, .slice F m d] 29)) 0 none 0 0 none 0 0
  rwa [s1] at this
theorem Two13.below {w w2 w3 : World} {g n c m d : Nat} {K : Int} {A F : Option Addr} (h : Two13 w w2 g K A n c F m d) (hb : Below w2.heap.size w2 w3) : Two13 w w3 g K A n c F m d := ⟨h.t.below hb, h.r.below hb, below_call h.b hb, h.l⟩
/-- The table's variable is another value. -/
theorem Two13.put {w w2 : World} {g n c m d n' c' m' d' : Nat} {K K' : Int} {A F A' F' : Option Addr} (h : Two13 w w2 g K A n c F m d) :
    Two13 w (((w2.setCell ⟨g, 0, none⟩ (.int .i64 K')).setCell ⟨g, 1, none⟩ (.slice A' n' c')).setCell ⟨g, 2, none⟩ (.slice F' m' d')) g K' A' n' c' F' m' d' :=
  ⟨h.t.put _ _ _ _ _ _ _, h.r.kept (kept_put w2 _ _ _) (by omega), below_put h.b h.l _ _ _, h.l⟩

set_option maxHeartbeats 8000000 in
theorem radd_no (w : World) (B : Nat) (K : Int) (S : M.Tt Int) (A : Option Addr) (n c : Nat) (F : Option Addr) (m d : Nat) (h : Doc13 w B S A n c F m d) (v : Int) (hK : ¬ M.kOk K) :
    Calls Try.prog 10 #[tv K A n c F m d, .int .i64 v] w (DGot13 w B K S A F (fun z => .tuple #[z, .int .u64 0])) := by
  have T2 := Lib.hid (two_new w K A n c F m d)
  obtain ⟨w2, hw2⟩ : ∃ y, y = (w.alloc (.cells #[.int .i64 K, .slice A n c, .slice F m d] 29)).alloc (.cells #[.int .i64 0, .slice none 0 0, .slice none 0 0] 29) := ⟨_, rfl⟩
  rw [← hw2] at T2
  obtain ⟨g, hg⟩ : ∃ y, y = w.heap.size := ⟨_, rfl⟩
  rw [← hg] at T2
  have HW := Lib.hid hw2
  have HG := Lib.hid hg
  have x0 := T2.out.t.c0
  have x1 := T2.out.t.c1
  have x2 := T2.out.t.c2
  have f0 := T2.out.r.frz 0
  have f1 := T2.out.r.frz 1
  have f2 := T2.out.r.frz 2
  have u0 := T2.out.r.c0
  have u1 := T2.out.r.c1
  have u2 := T2.out.r.c2
  have T7h := Lib.hid (T2.out.r.put K A n c F m d)
  have k7 := kept_put (g := g + 1) w2 (.int .i64 K) (.slice A n c) (.slice F m d)
  have D2 := h.below T2.out.b
  have RES := Lib.hid (show DGot13 w B K S A F (fun z => .tuple #[z, .int .u64 0]) (.returned (.tuple #[tv K A n c F m d, .int .u64 0])) ((((w2.setCell ⟨g + 1, 0, none⟩ (.int .i64 K)).setCell ⟨g + 1, 1, none⟩ (.slice A n c)).setCell ⟨g + 1, 2, none⟩ (.slice F m d))) from
    ⟨A, n, c, F, m, d, rfl, ⟨row_kept D2.row k7 (fun x hx e => row_off D2.row T2.out.r.blk (by decide) (e ▸ hx)), row_kept D2.fre k7 (fun x hx e => row_off D2.fre T2.out.r.blk (by decide) (e ▸ hx))⟩, below_put T2.out.b (by have := T2.out.l; omega) _ _ _, fun x hx => .inl hx, fun x hx => .inl hx⟩)
  clear k7 D2 h hw2 hg
  go_enter Try.func10, Try.ntmps10
  go_upto_region 1 with fail
  rw [← HW.out, ← HG.out]
  by_cases h1 : K < 1
  · have z1 : decide (K < 1) = true := decide_eq_true h1
    clear hK
    go_wp2_with fail
    have v0 := T7h.out.c0
    have v1 := T7h.out.c1
    have v2 := T7h.out.c2
    refine bodyPost_ret (v := .tuple #[tv K A n c F m d, .int .u64 0]) ?_ rfl ?_
    · simp [results, go_sem, v0, v1, v2]
    · exact RES.out
  · have z1 : decide (K < 1) = false := decide_eq_false h1
    have z2 : decide (3 < K) = true := by
      refine decide_eq_true ?_
      have : ¬ (1 ≤ K ∧ K ≤ 3) := hK
      omega
    clear hK h1
    go_wp2_with fail
    have v0 := T7h.out.c0
    have v1 := T7h.out.c1
    have v2 := T7h.out.c2
    refine bodyPost_ret (v := .tuple #[tv K A n c F m d, .int .u64 0]) ?_ rfl ?_
    · simp [results, go_sem, v0, v1, v2]
    · exact RES.out

set_option maxHeartbeats 8000000 in
theorem radd_new (w : World) (B : Nat) (K : Int) (S : M.Tt Int) (A0 : Option Addr) (n c : Nat) (F0 : Option Addr) (m d : Nat) (h : Doc13 w B S A0 n c F0 m d) (hB : B ≤ w.heap.size) (hl : S.s.length ≤ 1000000) (v : Int) (hK : M.kOk K) (hf : S.f = []) (p : Int) (hp : M.hpV K (S.at' : Int) (S.gn : Int) = p) :
    Calls Try.prog 10 #[tv K A0 n c F0 m d, .int .i64 v] w (DGot13 w B K (S.put v) A0 F0 (fun z => .tuple #[z, .int .u64 p])) := by
  have HK1 := hK.1
  have HK2 := hK.2
  have z1 : decide (K < 1) = false := decide_eq_false (by omega)
  have z2 : decide (3 < K) = false := decide_eq_false (by omega)
  have T2 := Lib.hid (two_new w K A0 n c F0 m d)
  obtain ⟨w2, hw2⟩ : ∃ y, y = (w.alloc (.cells #[.int .i64 K, .slice A0 n c, .slice F0 m d] 29)).alloc (.cells #[.int .i64 0, .slice none 0 0, .slice none 0 0] 29) := ⟨_, rfl⟩
  rw [← hw2] at T2
  obtain ⟨g, hg⟩ : ∃ y, y = w.heap.size := ⟨_, rfl⟩
  rw [← hg] at T2
  have HW := Lib.hid hw2
  have HG := Lib.hid hg
  have D2 := Lib.hid (h.below T2.out.b)
  have HL := Lib.hid hl
  have HBQ := Lib.hid hB
  have x0 := T2.out.t.c0
  have x1 := T2.out.t.c1
  have x2 := T2.out.t.c2
  have hn := h.n_eq
  have hm : m = 0 := by have := h.m_eq; rw [hf] at this; simpa using this
  subst hm
  have hat := M.at_nil hf
  have hgn := M.gn_nil hf
  rw [hat, hgn, ← hn] at hp
  have hput : M.putAt S.s n ⟨true, 0, v⟩ = (S.put v).s := by show _ = M.putAt S.s S.at' ⟨true, S.gn, v⟩; rw [hat, hgn, hn]
  have hfin : (S.put v).f = S.f := by show S.f.dropLast = S.f; rw [hf]; rfl
  have HPUT := Lib.hid (And.intro hput (And.intro hfin (show n ≤ S.s.length by omega)))
  have HP := M.Shut13.mk (show M.hpV K (n : Int) ((0 : Nat) : Int) = p from hp)
  have hn6 : n ≤ 1000000 := by omega
  clear h hf hp hat hgn hput hfin hn hw2 hg hK hl hB
  go_enter Try.func10, Try.ntmps10
  go_upto_region 1 with fail
  rw [← HW.out, ← HG.out]
  go_upto_region 10 with fail
  clear x0 x1 x2 z1 z2
  have TQ := T2
  have DR := Lib.hid D2.out.row
  have FR := Lib.hid (show w2.ownsRow B 3 1 (.slice F0 0 d) 0 (nats (S.put v).f) by rw [HPUT.out.2.1]; exact D2.out.fre)
  generalize w2 = wq at *
  have x0 := TQ.out.t.c0
  have x1 := TQ.out.t.c1
  have x2 := TQ.out.t.c2
  go_wp2_with fail
  refine (with_any wq B K A0 n c F0 0 d S.s n ⟨true, 0, v⟩ DR.out HPUT.out.2.2 HL.out).mono ?_
  rintro _ w5 ⟨A5, n5, c5, rfl, r5, b5⟩
  have T5 := Lib.hid (TQ.out.below b5)
  have F5 := Lib.hid (row_below FR.out b5)
  have R5 := Lib.hid (r5.mono (Nat.le_trans HBQ.out TQ.out.b.size))
  have L5 := Lib.hid (show ∀ x, rowD A5 x → wq.heap.size ≤ x from fun x hx => (row_low r5 hx).1)
  clear x0 x1 x2 r5 b5
  have x0 := T5.out.t.c0
  have x1 := T5.out.t.c1
  have x2 := T5.out.t.c2
  have f0 := T5.out.t.frz 0
  have f1 := T5.out.t.frz 1
  have f2 := T5.out.t.frz 2
  go_upto_region 11 with fail
  obtain ⟨w6, hw6⟩ : ∃ y, y = (((w5.setCell ⟨g, 0, none⟩ (.int .i64 K)).setCell ⟨g, 1, none⟩ (.slice A5 n5 c5)).setCell ⟨g, 2, none⟩ (.slice F0 0 d)) := ⟨_, rfl⟩
  rw [← hw6]
  have T6 : Two13 w w6 g K A5 n5 c5 F0 0 d := by rw [hw6]; exact T5.out.put
  have k6 : Kept w5 w6 (fun x => x = g) := by rw [hw6]; exact kept_put w5 _ _ _
  have r6 := row_kept R5.out k6 (fun x hx e => row_off R5.out T5.out.t.blk (by decide) (e ▸ hx))
  have fr6 := row_kept F5.out k6 (fun x hx e => row_off F5.out T5.out.t.blk (by decide) (e ▸ hx))
  clear x0 x1 x2 f0 f1 f2 hw6 k6
  have x0 := T6.t.c0
  have x1 := T6.t.c1
  have x2 := T6.t.c2
  have T7 := T6.r.put K A5 n5 c5 F0 0 d
  have k7 := kept_put (g := g + 1) w6 (.int .i64 K) (.slice A5 n5 c5) (.slice F0 0 d)
  have y0 := (T6.t.kept k7 (by omega)).c0
  have y1 := (T6.t.kept k7 (by omega)).c1
  have y2 := (T6.t.kept k7 (by omega)).c2
  have u0 := T6.r.c0
  have u1 := T6.r.c1
  have u2 := T6.r.c2
  have f0 := T6.r.frz 0
  have f1 := T6.r.frz 1
  have f2 := T6.r.frz 2
  have T7h := Lib.hid T7
  have RES := Lib.hid (show DGot13 w B K (S.put v) A0 F0 (fun z => .tuple #[z, .int .u64 p]) (.returned (.tuple #[tv K A5 n5 c5 F0 0 d, .int .u64 p])) ((((w6.setCell ⟨g + 1, 0, none⟩ (.int .i64 K)).setCell ⟨g + 1, 1, none⟩ (.slice A5 n5 c5)).setCell ⟨g + 1, 2, none⟩ (.slice F0 0 d)).drew) from
    ⟨A5, n5, c5, F0, 0, d, rfl, ⟨by rw [← HPUT.out.1]; exact row_kept r6 k7.drew (fun x hx e => row_off r6 T6.r.blk (by decide) (e ▸ hx)), row_kept fr6 k7.drew (fun x hx e => row_off fr6 T6.r.blk (by decide) (e ▸ hx))⟩, (below_put T6.b (by have := T6.l; omega) _ _ _).drew, fun x hx => .inr (Nat.le_trans TQ.out.b.size (L5.out x hx)), fun x hx => .inl hx⟩)
  clear T7 k7 r6 fr6 T6
  have HCC := Lib.hid (fun W => rhpack_at (is := (n : Int)) (ig := (0 : Int)) K (n : Int) ((0 : Nat) : Int) p rfl rfl rfl (by omega) (by omega) HP.out W)
  refine wp_region_noPanic ?_
  refine wp_region_held_drew (S := fun W => W.cell? ⟨g, 0, none⟩ = some (.int .i64 K) ∧ W.cell? ⟨g, 1, none⟩ = some (.slice A5 n5 c5) ∧ W.cell? ⟨g, 2, none⟩ = some (.slice F0 0 d)) (by kernel_rfl) (⟨x0, x1, x2⟩) (fun hHeld => ?_)
  refine tkC 0 (some 50) (Op.load 29 (Operand.tmp 2)) 29 (v := ?_) rfl (by decide +kernel) (by kernel_rfl) ?_ ‹_› ?_
  rotate_left
  ·(intro w hSw; (try dsimp only at hSw); go_simp) <;> with_reducible rfl
  (try simp only [Act.put, List.setIfInBounds_toArray, List.set_cons_zero, List.set_cons_succ])
  refine tkC 1 (some 51) (Op.fieldAddr 29 (Operand.tmp 2) 0) 0 (v := ?_) rfl (by decide +kernel) (by kernel_rfl) ?_ ‹_› ?_
  rotate_left
  ·(intro w hSw; (try dsimp only at hSw); go_simp) <;> with_reducible rfl
  (try simp only [Act.put, List.setIfInBounds_toArray, List.set_cons_zero, List.set_cons_succ])
  refine tkC 2 (some 52) (Op.load 3 (Operand.tmp 51)) 3 (v := ?_) rfl (by decide +kernel) (by kernel_rfl) ?_ ‹_› ?_
  rotate_left
  ·(intro w hSw; (try dsimp only at hSw); go_simp) <;> with_reducible rfl
  (try simp only [Act.put, List.setIfInBounds_toArray, List.set_cons_zero, List.set_cons_succ])
  refine tkC 3 (some 53) (Op.move (Operand.tmp 6)) 3 (v := ?_) rfl (by decide +kernel) (by kernel_rfl) ?_ ‹_› ?_
  rotate_left
  ·(intro w hSw; (try dsimp only at hSw); go_simp) <;> with_reducible rfl
  (try simp only [Act.put, List.setIfInBounds_toArray, List.set_cons_zero, List.set_cons_succ])
  refine tkC 4 (some 54) (Op.move (Operand.tmp 7)) 3 (v := ?_) rfl (by decide +kernel) (by kernel_rfl) ?_ ‹_› ?_
  rotate_left
  ·(intro w hSw; (try dsimp only at hSw); go_simp) <;> with_reducible rfl
  (try simp only [Act.put, List.setIfInBounds_toArray, List.set_cons_zero, List.set_cons_succ])
  refine rdA (rs := [5]) (by decide +kernel) ?_ rfl
  refine rcA (some 55) (Op.call { callee := Callee.value (Operand.func 36), args := #[Operand.tmp 52, Operand.tmp 53, Operand.tmp 54], argTypes := #[3, 3, 3] }) 31 rfl (by kernel_rfl) (fun K hK => ?_) ?_
  ·go_simp
   refine (HCC.out _).mono ?_
   rintro _ _ ⟨rfl, rfl⟩
   go_wp2_with fail
   refine hK.out _ _ ?_ (fun hHeld => ?_)
   · exact ⟨x0, x1, x2⟩
   clear hK K
   (try simp only [Act.put, List.setIfInBounds_toArray, List.set_cons_zero, List.set_cons_succ])
   refine rdA (rs := [6]) (by decide +kernel) ?_ rfl
   refine rcA none (Op.store 29 (Operand.tmp 4) (Operand.tmp 50)) 0 rfl (by kernel_rfl) (fun K hK => ?_) ?_
   ·go_simp
    refine hK.out _ _ ?_ (fun hHeld => ?_)
    · exact ⟨y0, y1, y2⟩
    clear hK K
    (try simp only [Act.put, List.setIfInBounds_toArray, List.set_cons_zero, List.set_cons_succ])
    refine tkC 7 (some 5) (Op.assign (Operand.tmp 55)) 31 (v := ?_) rfl (by decide +kernel) (by kernel_rfl) ?_ ‹_› ?_
    rotate_left
    ·(intro w hSw; (try dsimp only at hSw); go_simp) <;> with_reducible rfl
    (try simp only [Act.put, List.setIfInBounds_toArray, List.set_cons_zero, List.set_cons_succ])
    refine wpAnyH_done (by kernel_rfl) ?_ _
    refine NoPanic.normal ?_
    go_wp2_with fail
    have v0 := T7h.out.c0
    have v1 := T7h.out.c1
    have v2 := T7h.out.c2
    refine bodyPost_ret (v := .tuple #[tv K A5 n5 c5 F0 0 d, .int .u64 p]) ?_ rfl ?_
    · simp [results, go_sem, v0, v1, v2]
    · exact RES.out
   exact AllReadyH.nil
  exact AllReadyH.nil

set_option maxHeartbeats 8000000 in
theorem radd_old (w : World) (B : Nat) (K : Int) (S : M.Tt Int) (A0 : Option Addr) (n c : Nat) (F0 : Option Addr) (m d : Nat) (h : Doc13 w B S A0 n c F0 m d) (hB : B ≤ w.heap.size) (hok : S.Ok K) (hl : S.s.length ≤ 1000000) (v : Int) (hK : M.kOk K) {f0 : List Nat} {i : Nat} (hf : S.f = f0 ++ [i]) (p : Int) (hp : M.hpV K (S.at' : Int) (S.gn : Int) = p) :
    Calls Try.prog 10 #[tv K A0 n c F0 m d, .int .i64 v] w (DGot13 w B K (S.put v) A0 F0 (fun z => .tuple #[z, .int .u64 p])) := by
  have HK1 := hK.1
  have HK2 := hK.2
  have z1 : decide (K < 1) = false := decide_eq_false (by omega)
  have z2 : decide (3 < K) = false := decide_eq_false (by omega)
  have T2 := Lib.hid (two_new w K A0 n c F0 m d)
  obtain ⟨w2, hw2⟩ : ∃ y, y = (w.alloc (.cells #[.int .i64 K, .slice A0 n c, .slice F0 m d] 29)).alloc (.cells #[.int .i64 0, .slice none 0 0, .slice none 0 0] 29) := ⟨_, rfl⟩
  rw [← hw2] at T2
  obtain ⟨g, hg⟩ : ∃ y, y = w.heap.size := ⟨_, rfl⟩
  rw [← hg] at T2
  have HW := Lib.hid hw2
  have HG := Lib.hid hg
  have D2 := Lib.hid (h.below T2.out.b)
  have HL := Lib.hid hl
  have HBQ := Lib.hid hB
  have x0 := T2.out.t.c0
  have x1 := T2.out.t.c1
  have x2 := T2.out.t.c2
  have hn := h.n_eq
  have hfl := hok.f_le
  obtain ⟨k, hk⟩ : ∃ k, k = f0.length := ⟨_, rfl⟩
  have hm : m = k + 1 := by have := h.m_eq; rw [hf] at this; simp at this; omega
  subst hm
  obtain ⟨e, he, heu⟩ := hok.fr i (by rw [hf]; simp)
  have hat := M.at_snoc hf
  have hgn : S.gn = e.g := M.gn_of (by rw [hat]; exact he)
  have hgl := hok.gn i e he
  obtain ⟨gn, hgg⟩ : ∃ y, e.g = y := ⟨_, rfl⟩
  rw [hgg] at hgn hgl
  rw [hat, hgn] at hp
  have hput : M.putAt S.s i ⟨true, gn, v⟩ = (S.put v).s := by show _ = M.putAt S.s S.at' ⟨true, S.gn, v⟩; rw [hat, hgn]
  have hfin : (S.put v).f = f0 := by show S.f.dropLast = f0; rw [hf, List.dropLast_concat]
  have hi := (List.getElem?_eq_some_iff.1 he).1
  have HPUT := Lib.hid (And.intro hput (And.intro hfin (Nat.le_of_lt hi)))
  have HP := M.Shut13.mk hp
  obtain ⟨ge, rfl, hin, enl, q0, q1, q2⟩ := e_cells D2.out.row he
  rw [hgg] at q2
  have fr := D2.out.fre
  rw [hf] at fr
  obtain ⟨gf, rfl, ci⟩ := nat_cell fr (j := k) (i := i) (by rw [hk]; simp)
  have cut := icut13_to gf 0 (k + 1) d k (by have := row_cap fr; omega)
  have fr2 : w2.ownsRow B 3 1 (.slice (some ⟨gf, 0, none⟩) k d) k (nats f0) := by
    have := row_take fr (k := k) (by omega) (by omega)
    rw [nats_append, Nat.mul_one, hk, ← nats_length f0, List.take_left] at this
    rw [hk, ← nats_length f0]; exact this
  have FR2 := Lib.hid fr2
  have hk6 : k ≤ 1000000 := by rw [hf] at hfl; simp at hfl; omega
  have hi6 : i ≤ 1000000 := by omega
  have ff2 := T2.out.t.frz 2
  clear h hf hp hat hgn hput hfin hn hw2 hg hK hl hB hfl hk hok he heu hgg hi enl q0 q1 fr fr2
  go_enter Try.func10, Try.ntmps10
  go_upto_region 1 with fail
  rw [← HW.out, ← HG.out]
  go_upto_region 10 with fail
  obtain ⟨wq, hwq⟩ : ∃ y, y = w2.setCell ⟨g, 2, none⟩ (.slice (some ⟨gf, 0, none⟩) k d) := ⟨_, rfl⟩
  rw [← hwq]
  have kq : Kept w2 wq (fun x => x = g) := by rw [hwq]; exact (Kept.refl w2 (fun x => x = g)).setCell (p := ⟨g, 2, none⟩) (fun _ => rfl) _
  have TQ := Lib.hid (show Two13 w wq g K (some ⟨ge, 0, none⟩) n c (some ⟨gf, 0, none⟩) k d from ⟨by rw [hwq]; exact T2.out.t.set2 _ _ _, T2.out.r.kept kq (by omega), T2.out.b.trans (kq.below T2.out.b.size (fun x hx => by have := T2.out.l; omega)), T2.out.l⟩)
  have DR := Lib.hid (row_kept D2.out.row kq (fun x hx e => row_off D2.out.row T2.out.t.blk (by decide) (e ▸ hx)))
  have FR := Lib.hid (show wq.ownsRow B 3 1 (.slice (some ⟨gf, 0, none⟩) k d) k (nats (S.put v).f) by rw [HPUT.out.2.1]; exact row_kept FR2.out kq (fun x hx e => row_off FR2.out T2.out.t.blk (by decide) (e ▸ hx)))
  have A0 : True := trivial
  clear x0 x1 x2 z1 z2 hwq kq q2 ci cut ff2 A0
  have x0 := TQ.out.t.c0
  have x1 := TQ.out.t.c1
  have x2 := TQ.out.t.c2
  go_wp2_with fail
  refine (with_any wq B K (some ⟨ge, 0, none⟩) n c (some ⟨gf, 0, none⟩) k d S.s i ⟨true, gn, v⟩ DR.out HPUT.out.2.2 HL.out).mono ?_
  rintro _ w5 ⟨A5, n5, c5, rfl, r5, b5⟩
  have T5 := Lib.hid (TQ.out.below b5)
  have F5 := Lib.hid (row_below FR.out b5)
  have R5 := Lib.hid (r5.mono (Nat.le_trans HBQ.out TQ.out.b.size))
  have L5 := Lib.hid (show ∀ x, rowD A5 x → wq.heap.size ≤ x from fun x hx => (row_low r5 hx).1)
  clear x0 x1 x2 r5 b5
  have x0 := T5.out.t.c0
  have x1 := T5.out.t.c1
  have x2 := T5.out.t.c2
  have f0 := T5.out.t.frz 0
  have f1 := T5.out.t.frz 1
  have f2 := T5.out.t.frz 2
  go_upto_region 11 with fail
  obtain ⟨w6, hw6⟩ : ∃ y, y = (((w5.setCell ⟨g, 0, none⟩ (.int .i64 K)).setCell ⟨g, 1, none⟩ (.slice A5 n5 c5)).setCell ⟨g, 2, none⟩ (.slice (some ⟨gf, 0, none⟩) k d)) := ⟨_, rfl⟩
  rw [← hw6]
  have T6 : Two13 w w6 g K A5 n5 c5 (some ⟨gf, 0, none⟩) k d := by rw [hw6]; exact T5.out.put
  have k6 : Kept w5 w6 (fun x => x = g) := by rw [hw6]; exact kept_put w5 _ _ _
  have r6 := row_kept R5.out k6 (fun x hx e => row_off R5.out T5.out.t.blk (by decide) (e ▸ hx))
  have fr6 := row_kept F5.out k6 (fun x hx e => row_off F5.out T5.out.t.blk (by decide) (e ▸ hx))
  clear x0 x1 x2 f0 f1 f2 hw6 k6
  have x0 := T6.t.c0
  have x1 := T6.t.c1
  have x2 := T6.t.c2
  have T7 := T6.r.put K A5 n5 c5 (some ⟨gf, 0, none⟩) k d
  have k7 := kept_put (g := g + 1) w6 (.int .i64 K) (.slice A5 n5 c5) (.slice (some ⟨gf, 0, none⟩) k d)
  have y0 := (T6.t.kept k7 (by omega)).c0
  have y1 := (T6.t.kept k7 (by omega)).c1
  have y2 := (T6.t.kept k7 (by omega)).c2
  have u0 := T6.r.c0
  have u1 := T6.r.c1
  have u2 := T6.r.c2
  have f0 := T6.r.frz 0
  have f1 := T6.r.frz 1
  have f2 := T6.r.frz 2
  have T7h := Lib.hid T7
  have RES := Lib.hid (show DGot13 w B K (S.put v) (some ⟨ge, 0, none⟩) (some ⟨gf, 0, none⟩) (fun z => .tuple #[z, .int .u64 p]) (.returned (.tuple #[tv K A5 n5 c5 (some ⟨gf, 0, none⟩) k d, .int .u64 p])) ((((w6.setCell ⟨g + 1, 0, none⟩ (.int .i64 K)).setCell ⟨g + 1, 1, none⟩ (.slice A5 n5 c5)).setCell ⟨g + 1, 2, none⟩ (.slice (some ⟨gf, 0, none⟩) k d)).drew) from
    ⟨A5, n5, c5, (some ⟨gf, 0, none⟩), k, d, rfl, ⟨by rw [← HPUT.out.1]; exact row_kept r6 k7.drew (fun x hx e => row_off r6 T6.r.blk (by decide) (e ▸ hx)), row_kept fr6 k7.drew (fun x hx e => row_off fr6 T6.r.blk (by decide) (e ▸ hx))⟩, (below_put T6.b (by have := T6.l; omega) _ _ _).drew, fun x hx => .inr (Nat.le_trans TQ.out.b.size (L5.out x hx)), fun x hx => .inl hx⟩)
  clear T7 k7 r6 fr6 T6
  have HCC := Lib.hid (fun W => rhpack_at (is := (i : Int)) (ig := ((gn : Nat) : Int)) K (i : Int) ((gn : Nat) : Int) p rfl rfl rfl (by omega) (by omega) HP.out W)
  refine wp_region_noPanic ?_
  refine wp_region_held_drew (S := fun W => W.cell? ⟨g, 0, none⟩ = some (.int .i64 K) ∧ W.cell? ⟨g, 1, none⟩ = some (.slice A5 n5 c5) ∧ W.cell? ⟨g, 2, none⟩ = some (.slice (some ⟨gf, 0, none⟩) k d)) (by kernel_rfl) (⟨x0, x1, x2⟩) (fun hHeld => ?_)
  refine tkC 0 (some 50) (Op.load 29 (Operand.tmp 2)) 29 (v := ?_) rfl (by decide +kernel) (by kernel_rfl) ?_ ‹_› ?_
  rotate_left
  ·(intro w hSw; (try dsimp only at hSw); go_simp) <;> with_reducible rfl
  (try simp only [Act.put, List.setIfInBounds_toArray, List.set_cons_zero, List.set_cons_succ])
  refine tkC 1 (some 51) (Op.fieldAddr 29 (Operand.tmp 2) 0) 0 (v := ?_) rfl (by decide +kernel) (by kernel_rfl) ?_ ‹_› ?_
  rotate_left
  ·(intro w hSw; (try dsimp only at hSw); go_simp) <;> with_reducible rfl
  (try simp only [Act.put, List.setIfInBounds_toArray, List.set_cons_zero, List.set_cons_succ])
  refine tkC 2 (some 52) (Op.load 3 (Operand.tmp 51)) 3 (v := ?_) rfl (by decide +kernel) (by kernel_rfl) ?_ ‹_› ?_
  rotate_left
  ·(intro w hSw; (try dsimp only at hSw); go_simp) <;> with_reducible rfl
  (try simp only [Act.put, List.setIfInBounds_toArray, List.set_cons_zero, List.set_cons_succ])
  refine tkC 3 (some 53) (Op.move (Operand.tmp 6)) 3 (v := ?_) rfl (by decide +kernel) (by kernel_rfl) ?_ ‹_› ?_
  rotate_left
  ·(intro w hSw; (try dsimp only at hSw); go_simp) <;> with_reducible rfl
  (try simp only [Act.put, List.setIfInBounds_toArray, List.set_cons_zero, List.set_cons_succ])
  refine tkC 4 (some 54) (Op.move (Operand.tmp 7)) 3 (v := ?_) rfl (by decide +kernel) (by kernel_rfl) ?_ ‹_› ?_
  rotate_left
  ·(intro w hSw; (try dsimp only at hSw); go_simp) <;> with_reducible rfl
  (try simp only [Act.put, List.setIfInBounds_toArray, List.set_cons_zero, List.set_cons_succ])
  refine rdA (rs := [5]) (by decide +kernel) ?_ rfl
  refine rcA (some 55) (Op.call { callee := Callee.value (Operand.func 36), args := #[Operand.tmp 52, Operand.tmp 53, Operand.tmp 54], argTypes := #[3, 3, 3] }) 31 rfl (by kernel_rfl) (fun K hK => ?_) ?_
  ·go_simp
   refine (HCC.out _).mono ?_
   rintro _ _ ⟨rfl, rfl⟩
   go_wp2_with fail
   refine hK.out _ _ ?_ (fun hHeld => ?_)
   · exact ⟨x0, x1, x2⟩
   clear hK K
   (try simp only [Act.put, List.setIfInBounds_toArray, List.set_cons_zero, List.set_cons_succ])
   refine rdA (rs := [6]) (by decide +kernel) ?_ rfl
   refine rcA none (Op.store 29 (Operand.tmp 4) (Operand.tmp 50)) 0 rfl (by kernel_rfl) (fun K hK => ?_) ?_
   ·go_simp
    refine hK.out _ _ ?_ (fun hHeld => ?_)
    · exact ⟨y0, y1, y2⟩
    clear hK K
    (try simp only [Act.put, List.setIfInBounds_toArray, List.set_cons_zero, List.set_cons_succ])
    refine tkC 7 (some 5) (Op.assign (Operand.tmp 55)) 31 (v := ?_) rfl (by decide +kernel) (by kernel_rfl) ?_ ‹_› ?_
    rotate_left
    ·(intro w hSw; (try dsimp only at hSw); go_simp) <;> with_reducible rfl
    (try simp only [Act.put, List.setIfInBounds_toArray, List.set_cons_zero, List.set_cons_succ])
    refine wpAnyH_done (by kernel_rfl) ?_ _
    refine NoPanic.normal ?_
    go_wp2_with fail
    have v0 := T7h.out.c0
    have v1 := T7h.out.c1
    have v2 := T7h.out.c2
    refine bodyPost_ret (v := .tuple #[tv K A5 n5 c5 (some ⟨gf, 0, none⟩) k d, .int .u64 p]) ?_ rfl ?_
    · simp [results, go_sem, v0, v1, v2]
    · exact RES.out
   exact AllReadyH.nil
  exact AllReadyH.nil

theorem radd_any (w : World) (B : Nat) (K : Int) (S : M.Tt Int) (A : Option Addr) (n c : Nat) (F : Option Addr) (m d : Nat) (h : Doc13 w B S A n c F m d) (hB : B ≤ w.heap.size) (hok : S.Ok K) (hl : S.s.length ≤ 1000000) (v : Int) (p : Int) (hp : M.hpV K (S.at' : Int) (S.gn : Int) = p) :
    Calls Try.prog 10 #[tv K A n c F m d, .int .i64 v] w (DGot13 w B K (S.add K v) A F (fun z => .tuple #[z, .int .u64 p])) := by
  unfold M.Tt.add
  by_cases hK : M.kOk K
  · rw [if_pos hK]
    rcases List.eq_nil_or_concat S.f with e | ⟨l, i, e⟩
    · exact radd_new w B K S A n c F m d h hB hl v hK e p hp
    · rw [List.concat_eq_append] at e
      exact radd_old w B K S A n c F m d h hB hok hl v hK e p hp
  · rw [if_neg hK]
    have : p = 0 := by rw [← hp, M.hpV_no _ _ _ (fun e => hK ⟨e.1, e.2.1⟩)]
    subst this
    exact radd_no w B K S A n c F m d h v hK
end Go.Proofs.Ytbkdlblpoohliaa
