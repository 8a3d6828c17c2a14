/-
  What ChunkApart goes by.
-/
import Derived.Test.YtmboibipabkhaaaK12
import Derived.Test.YtmboibipabkhaaaK11
namespace Go.Proofs.Ytmboibipabkhaaa
open Go.ChangeShapes Go.WideShapes Go.ChangeAt Go.RowKit Go.Deep
set_option linter.unusedVariables false
set_option maxRecDepth 20000

theorem relem10 : Try.prog.elem 29 = 37 := by kernel_rfl
theorem rund10 : Try.prog.underlying 29 = some (.slice (Try.prog.elem 29)) := by rw [relem10]; exact Try.underlying29
theorem rsize10 (W : World) : (Go.sizeOf 37).run Try.prog W = .ok 2 W := by
  obtain ⟨i, hi, hz, hs, hb⟩ := info36
  simp [Go.sizeOf, typeInfo, hi, hs]
theorem rcut10_to (bl o n cap i : Nat) (hi : i ≤ cap) (W : World) : (Instr.slice 29 (.slice (some ⟨bl, o, none⟩) n cap) none (some (.int .i64 (i : Int))) none).run Try.prog W = .ok (.slice (some ⟨bl, o, none⟩) i cap) W := by
  rw [run_slice_h W 29 (some ⟨bl, o, none⟩) n cap rund10 .i64 i (by omega) (by omega), relem10, rsize10]
  simp only [Result.andThen_ok, sliced, Int.toNat_natCast, Nat.sub_zero, Nat.zero_mul]
  split <;> simp [add_zero']
theorem rcut10_from (bl o n cap i : Nat) (hi : i ≤ n) (hn : n ≤ cap) : ∃ A', (∀ W, (Instr.slice 29 (.slice (some ⟨bl, o, none⟩) n cap) (some (.int .i64 (i : Int))) none none).run Try.prog W = .ok (.slice A' (n - i) (cap - i)) W) ∧ (i < n → A' = some ⟨bl, o + i * 2, none⟩) := by
  refine ⟨if cap = i then some ⟨bl, o, none⟩ else (some ⟨bl, o, none⟩ : Option Addr).map (·.add (i * 2)), fun W => by rw [run_slice_l W 29 (some ⟨bl, o, none⟩) n cap rund10 .i64 i (by omega) (by omega), relem10, rsize10]; simp only [Result.andThen_ok, sliced, Int.toNat_natCast], fun h => ?_⟩
  rw [if_neg (by omega)]
  simp [Addr.add_lit]
theorem run_cell10 (w : World) (p n : Int) : ∀ j u, (rc [⟨p, n⟩])[j]? = some u → (w.alloc (.cells #[.int .i64 p, .int .i64 n] 37)).cell? ((⟨w.heap.size, 0, none⟩ : Addr).add j) = some u := fun j u hu => by
  rw [Addr.add_lit, Nat.zero_add, World.cell?_alloc_mark]
  simpa [rc] using hu
theorem row_runs {w : World} {B t c : Nat} {A : Option Addr} {l : List M.R} (h : w.ownsRow B 37 2 (.slice A t c) t (rc l)) : Runs w A l ∧ t = l.length := by
  have ht : t = l.length := by have := h.1; rw [rc_length] at this; omega
  refine ⟨fun hl => ?_, ht⟩
  obtain ⟨g, rfl⟩ := row_some h (by omega)
  refine ⟨g, 0, rfl, fun i hi => ?_⟩
  have ha := rc_at l i hi
  have k : ∀ j v, (rc l)[j]? = some v → w.cell? ⟨g, j, none⟩ = some v := fun j v e => by
    have := h.cells (g := g) rfl j v e
    rwa [Addr.add_lit, Nat.zero_add] at this
  simp only [Nat.zero_add]
  exact ⟨k _ _ ha.1, k _ _ ha.2⟩
theorem runs_take {w : World} {A : Option Addr} {l : List M.R} (h : Runs w A l) (k : Nat) : Runs w A (l.take k) := fun hl => by
  obtain ⟨bl, o, e, hc⟩ := h (by simp at hl; omega)
  refine ⟨bl, o, e, fun i hi => ?_⟩
  have hi' : i < l.length := by simp at hi; omega
  rw [List.getElem_take]
  exact hc i hi'
theorem runs_drop {w : World} {bl o : Nat} {l : List M.R} (h : Runs w (some ⟨bl, o, none⟩) l) (k : Nat) : Runs w (some ⟨bl, o + k * 2, none⟩) (l.drop k) := fun hl => by
  obtain ⟨bl', o', e, hc⟩ := h (by simp at hl; omega)
  cases e
  refine ⟨bl, _, rfl, fun i hi => ?_⟩
  have hi' : k + i < l.length := by simp at hi; omega
  rw [List.getElem_drop]
  have := hc (k + i) hi'
  rw [show o + k * 2 + i * 2 = o + (k + i) * 2 by omega]
  exact this
/-- Runs are appended, none of them perhaps, to a list of one's own. -/
theorem wpList_app_runs {ops : Array Oper} {rest : List Oper} {o : Oper} {a : Act} {Q : Exit → Act → World → Prop} (hgd : o.guard = none) (s x : Operand) (ho : o.op = .call { callee := .builtin .append, args := #[s, x], argTypes := #[29, 29] })
    (w : World) (B : Nat) (A : Option Addr) (t c : Nat) (xs : List M.R) (hs : a.eval s = .slice A t c) (hown : w.ownsRow B 37 2 (.slice A t c) t (rc xs))
    (A2 : Option Addr) (m c2 : Nat) (S : List M.R) (hx : a.eval x = .slice A2 m c2) (hm : m = S.length) (hR : Runs w A2 S) (h1 : t + m ≤ 1000000) (hB : B ≤ w.heap.size)
    (h : ∀ A' c' w', w'.ownsRow B 37 2 (.slice A' (t + m) c') (t + m) (rc (xs ++ S)) → w.grownBy w' (Value.slice A t c).ownBlock → wpList Try.prog ops Q rest (a.put o.dst (.slice A' (t + m) c')) w') : wpList Try.prog ops Q (o :: rest) a w := by
  rcases Nat.eq_zero_or_pos m with h0 | h0
  · subst h0
    have hS : S = [] := List.length_eq_zero_iff.1 hm.symm
    have hc : t ≤ c := (row_cap hown).elim id (fun e => by omega)
    refine Lib.wpList_append_run w hgd s x _ _ ho (.slice A t c) (.slice A2 0 c2) hs hx (.slice A t c) w (run_append0 w _ A t c hc A2 c2) ?_
    have := h A c w (by rw [hS, List.append_nil]; exact hown) (World.grownBy.refl _ _)
    exact this
  · obtain ⟨bl, o2, rfl, hc⟩ := hR (by omega)
    obtain ⟨i, hi, hi0, hi1, hi2⟩ := info36
    refine wpList_append_lies w hgd s x 29 ho B 37 i (.agg #[.int .i64 0, .int .i64 0]) 2 16 Try.underlying29 hi hi0 hi1 hi2 rfl (by decide) (.slice A t c) t (rc xs) hs hown ⟨bl, o2, none⟩ m c2 (rc S) hx (by rw [rc_length, hm]) (fun j u hu => by rw [Addr.add_lit]; exact runs_cells hc j u hu) (rc_one _) h0 (by unfold maxLen; omega) (by omega) hB _ rfl ?_
    intro g1 c1 w' hrow hgr _ _
    exact h _ _ w' (by rw [rc_append]; exact hrow) hgr
theorem wpList_app_nil {ops : Array Oper} {rest : List Oper} {o : Oper} {a : Act} {Q : Exit → Act → World → Prop} (hgd : o.guard = none) (s x : Operand) (ho : o.op = .call { callee := .builtin .append, args := #[s, x], argTypes := #[29, 29] })
    (w : World) (hs : a.eval s = .slice none 0 0)
    (A2 : Option Addr) (m c2 : Nat) (S : List M.R) (hx : a.eval x = .slice A2 m c2) (hm : m = S.length) (hR : Runs w A2 S) (h1 : m ≤ 1000000)
    (h : ∀ A' c' w', w'.ownsRow w.heap.size 37 2 (.slice A' m c') m (rc S) → Below w.heap.size w w' → wpList Try.prog ops Q rest (a.put o.dst (.slice A' m c')) w') : wpList Try.prog ops Q (o :: rest) a w := by
  have hown : w.ownsRow w.heap.size 37 2 (.slice none 0 0) 0 (rc []) := ⟨rfl, .inl ⟨rfl, rfl⟩⟩
  refine wpList_app_runs hgd s x ho w w.heap.size none 0 0 [] hs hown A2 m c2 S hx hm hR (by omega) (Nat.le_refl _) (fun A' c' w' hrow hgr => ?_)
  have e : 0 + m = m := Nat.zero_add m
  rw [e] at hrow ⊢
  exact h A' c' w' hrow ((Below.refl _ w).grown hgr (Nat.le_refl _) (fun x hx => by simp [Value.ownBlock] at hx))
/-- .. whose block is behind B. -/
theorem below_app {w w' : World} {B t c e z : Nat} {A : Option Addr} {xs : List Value} (hown : w.ownsRow B e z (.slice A t c) t xs) (hgr : w.grownBy w' (Value.slice A t c).ownBlock) (hB : B ≤ w.heap.size) : Below B w w' :=
  (Below.refl B w).grown hgr hB (fun x hx => (row_low hown (own_D hx)).1)

/-- A row of bools, one for each page. -/
structure BA (w : World) (g N : Nat) (f : Nat → Bool) : Prop where
  cells : ∀ j, j < N → w.cell? ⟨g, j, none⟩ = some (.bool (f j)) ∧ w.frozen? ⟨g, j, none⟩ = false
theorem BA.set {w : World} {g N : Nat} {f : Nat → Bool} (h : BA w g N f) (i : Nat) (hi : i < N) (v : Bool) : BA (w.setCell ⟨g, i, none⟩ (.bool v)) g N (fun j => if j = i then v else f j) := by
  refine ⟨fun j hj => ⟨?_, by rw [World.frozen?_setCell]; exact (h.cells j hj).2⟩⟩
  by_cases e : j = i
  · subst e
    rw [World.cell?_setCell_same _ _ _ (h.cells j hj).1]
    simp
  · rw [World.cell?_setCell_other w _ _ _ (fun h2 => e (by injection h2 with _ h3; exact h3.symm)), (h.cells j hj).1]
    simp [e]
theorem make_ba (W : World) (N : Nat) (h : N ≤ 1000) : (Instr.makeSlice 44 (.int .i64 (N : Int)) (.int .i64 (N : Int))).run Try.prog W = .ok (.slice (some ⟨W.heap.size, 0, none⟩) N N) (W.alloc (.cells (madeCells #[.bool false] N) 4)) :=
  run_make_row' 44 4 (.bool false) 1 Try.underlying44 (by kernel_rfl) rfl .i64 .i64 N (by omega) (by omega) W
theorem ba_made (W : World) (N : Nat) : BA (W.alloc (.cells (madeCells #[.bool false] N) 4)) W.heap.size N (fun _ => false) := by
  have hl : (madeCells #[Value.bool false] N).toList = List.replicate N (.bool false) := toList_madeCells_one _ _
  refine ⟨fun j hj => ⟨?_, ?_⟩⟩
  · rw [World.cell?_alloc_mark, ← Array.getElem?_toList, hl, List.getElem?_replicate, if_pos hj]
  · rw [World.frozen?_alloc_mark]
    simp
/-- The pages of some runs, and the first ones of one more. -/
def mkd (L : List M.R) (p i : Int) : Nat → Bool := fun x => decide (1 ≤ M.cov x L) || (decide (p ≤ x) && decide ((x : Int) < p + i))
theorem mkd_none (x : Nat) (p : Int) : (decide (p ≤ (x : Int)) && decide ((x : Int) < p + 0)) = false := by
  rw [← Bool.not_eq_true, Bool.and_eq_true, decide_eq_true_eq, decide_eq_true_eq]
  omega
theorem mkd_nil : mkd [] 0 0 = fun _ => false := by
  funext x
  unfold mkd
  rw [mkd_none, Bool.or_false]
  exact decide_eq_false (by simp [M.cov])
theorem mkd_zero (L : List M.R) (p : Int) : mkd L p 0 = mkd L 0 0 := by
  funext x
  unfold mkd
  rw [mkd_none, mkd_none]
theorem mkd_succ (L : List M.R) (p i : Int) (y : Nat) (hi : 0 ≤ i) (hy : (y : Int) = p + i) : (fun x => if x = y then true else mkd L p i x) = mkd L p (i + 1) := by
  funext x
  unfold mkd
  by_cases e : x = y
  · rw [if_pos e]
    have : (decide (p ≤ (x : Int)) && decide ((x : Int) < p + (i + 1))) = true := by simp; omega
    rw [this]
    simp
  · rw [if_neg e]
    congr 1
    have : decide ((x : Int) < p + (i + 1)) = decide ((x : Int) < p + i) := by
      by_cases h : (x : Int) < p + i
      · rw [decide_eq_true h, decide_eq_true (by omega)]
      · rw [decide_eq_false h, decide_eq_false (by omega)]
    rw [this]
theorem mkd_next (L : List M.R) (r : M.R) : mkd L r.p r.n = mkd (L ++ [r]) 0 0 := by
  funext x
  unfold mkd
  rw [mkd_none, Bool.or_false, M.cov_append]
  have hn := M.cov_nonneg (x : Int) L
  have e : M.cov (x : Int) [r] = M.one r x := by simp [M.cov]
  rw [e]
  by_cases h : r.p ≤ (x : Int) ∧ (x : Int) < r.p + r.n
  · have o := M.one_in h.1 h.2
    rw [decide_eq_true h.1, decide_eq_true h.2, decide_eq_true (show 1 ≤ M.cov (x : Int) L + M.one r x by omega)]
    simp
  · have o := M.one_out h
    have : (decide (r.p ≤ (x : Int)) && decide ((x : Int) < r.p + r.n)) = false := by
      rw [← Bool.not_eq_true, Bool.and_eq_true, decide_eq_true_eq, decide_eq_true_eq]
      exact h
    rw [this, Bool.or_false, o, Int.add_zero]
/-- All pages, once each: the chunks that were got, the free runs, what is kept. -/
theorem apart_pt {N : Nat} {Z : St} {G : List M.R} (h : Inv N Z G) : Pt N [] (G ++ Z.l ++ M.all Z.K) := by
  have hp := h.pt
  refine ⟨trivial, fun r hr => ?_, fun x => ?_, ?_⟩
  · rcases List.mem_append.1 hr with hr | hr
    · rcases List.mem_append.1 hr with hr | hr
      · exact hp.pos r (List.mem_append.2 (.inr hr))
      · exact (hp.ok.mem r hr).2.2.1
    · exact hp.pos r (List.mem_append.2 (.inl hr))
  · have := hp.cov x
    rw [M.cov_append] at this
    rw [M.cov_append, M.cov_append]
    simp only [M.cov]
    omega
  · have := hp.tot
    rw [M.total_append] at this
    rw [M.total_append, M.total_append]
    simp only [M.total_nil]
    omega
/-- A page of one run is not one of those ahead of it. -/
theorem apart_at {N : Nat} {L : List M.R} (h : Pt N [] L) (y : Nat) (hy : y < L.length) (i : Int) (h0 : 0 ≤ i) (hi : i < L[y].n) : 0 ≤ L[y].p ∧ L[y].p + i < N ∧ ∀ x : Nat, (x : Int) = L[y].p + i → mkd (L.take y) L[y].p i x = false := by
  have hin := h.inn (List.getElem_mem hy)
  refine ⟨hin.1, by omega, fun x hx => ?_⟩
  have hc := h.le (x : Int)
  have e : L = L.take y ++ (L[y] :: L.drop (y + 1)) := by rw [List.getElem_cons_drop, List.take_append_drop]
  have h1 : M.cov (x : Int) L = M.cov (x : Int) (L.take y) + (M.one L[y] x + M.cov (x : Int) (L.drop (y + 1))) := by
    conv => lhs; rw [e]
    rw [M.cov_append]
    rfl
  have h2 := M.cov_nonneg (x : Int) (L.take y)
  have h3 := M.cov_nonneg (x : Int) (L.drop (y + 1))
  rw [M.one_in (by omega) (by omega)] at h1
  simp only [M.cov] at hc
  unfold mkd
  have : decide (1 ≤ M.cov (x : Int) (L.take y)) = false := by simp; omega
  rw [this, Bool.false_or]
  have : decide ((x : Int) < L[y].p + i) = false := by simp; omega
  rw [this, Bool.and_false]

/-- What stands behind some acts. -/
structure ApS (w wr : World) (s a b c N k t cc : Nat) (A : Option Addr) (Z : St) (Q D : Nat → Prop) (G : List M.R) : Prop where
  chk : Chk D w wr s a b c N Z Q k
  lst : Lst wr 37 2 w.heap.size A t cc (rc G) Q s
  dA : ∀ x, rowD A x → D x
  inv : Inv N Z G
section
variable {w wr w4 : World} {s a b c N k k' t t' cc c1 : Nat} {A : Option Addr} {Z Z' : St} {Q D : Nat → Prop} {G G' : List M.R}
theorem ApS.tl (h : ApS w wr s a b c N k t cc A Z Q D G) : t = G.length := (row_runs h.lst.row).2
theorem ApS.below (h : ApS w wr s a b c N k t cc A Z Q D G) (hb : Below wr.heap.size wr w4) : ApS w w4 s a b c N k t cc A Z Q D G := ⟨h.chk.below hb, h.lst.below hb, h.dA, h.inv⟩
theorem ApS.more (h : ApS w wr s a b c N k t cc A Z Q D G) (hk : k ≤ k') : ApS w wr s a b c N k' t cc A Z Q D G := ⟨h.chk.more hk, h.lst, h.dA, h.inv⟩
theorem ApS.call (h : ApS w wr s a b c N k t cc A Z Q D G) (hc : Chk D w w4 s a b c N Z' (Wid Q wr w4) k') (hk : Kept wr w4 Q) (hi : Inv N Z' G') (hG : rc G' = rc G) : ApS w w4 s a b c N k' t cc A Z' (Wid Q wr w4) D G' :=
  ⟨hc, by rw [hG]; exact h.lst.call hk, h.dA, hi⟩
/-- One more chunk was got. -/
theorem ApS.app {g1 : Nat} {r : M.R} (h : ApS w wr s a b c N k t cc A Z Q D G) (hrow : w4.ownsRow w.heap.size 37 2 (.slice (some ⟨g1, 0, none⟩) (t + 1) c1) (t + 1) (rc G ++ rc [r])) (hgr : wr.grownBy w4 (Value.slice A t cc).ownBlock) (hat : (Value.slice A t cc).ownBlock = some g1 ∨ g1 = wr.heap.size) (hlt : g1 < w4.heap.size) (hi : Inv N Z (r :: G)) :
    ApS w w4 s a b c N k (t + 1) c1 (some ⟨g1, 0, none⟩) Z Q (fun x => D x ∨ x = g1) (G ++ [r]) ∧ Kept wr w4 (rowD A) := by
  have q := h.chk.app2 h.dA h.lst hrow hgr hat hlt
  refine ⟨⟨q.1, by rw [rc_append]; exact q.2.1, fun x hx => ?_, hi.perm (List.perm_append_singleton _ _).symm⟩, q.2.2.1⟩
  obtain ⟨ad, e, rfl⟩ := hx
  cases e
  exact .inr rfl
/-- Another list stands in its place. -/
theorem ApS.swap {A' : Option Addr} (h : ApS w wr s a b c N k t cc A Z Q D G) (hb : Below wr.heap.size wr w4) (hrow : w4.ownsRow wr.heap.size 37 2 (.slice A' t' c1) t' (rc G')) (hi : Inv N Z G') :
    ApS w w4 s a b c N k t' c1 A' Z Q (fun x => D x ∨ rowD A' x) G' := by
  have hk := Kept.of_below hb (fun _ => False)
  refine ⟨h.chk.other hk (fun x e => e.elim) (fun x hx => hx.imp id (fun e => (row_low hrow e).1)) (fun x hx => hx.elim (fun e => Nat.lt_of_lt_of_le (h.chk.st.dl x e) hb.size) (fun e => (row_low hrow e).2)), ⟨⟨hrow.1, ?_⟩, fun x hx => ?_⟩, fun x hx => .inr hx, hi⟩
  · rcases hrow.2 with e | ⟨g, cap, cur, e1, e2, e3⟩
    · exact .inl e
    · exact .inr ⟨g, cap, cur, e1, Nat.le_trans h.chk.bel.size e2, e3⟩
  · have := (row_low hrow hx).1
    exact ⟨fun q => by have := h.chk.st.lt _ q; omega, fun e => by have := h.chk.bx.lt; omega⟩
end
/-- .. and a variable that holds an act. -/
structure ApV (w wr : World) (s a b c N k t cc : Nat) (A : Option Addr) (Z : St) (Q D : Nat → Prop) (G : List M.R) (y : Nat) (x : Act10) : Prop where
  ap : ApS w wr s a b c N k t cc A Z Q D G
  act : IsAct wr y 0 x
  qy : ¬ Q y
  ay : ¬ rowD A y
section
variable {w wr w4 : World} {s a b c N k k' t t' cc c1 y : Nat} {A : Option Addr} {Z Z' : St} {Q D O : Nat → Prop} {G G' : List M.R} {x : Act10}
theorem IsAct.lt (h : IsAct w y 0 x) : y < w.heap.size := lt_of_cell h.c0
theorem IsAct.kept (h : IsAct w y 0 x) (hk : Kept w wr O) (hO : ¬ O y) : IsAct wr y 0 x :=
  ⟨hk.cell_some h.c0 hO, hk.cell_some h.c1 hO, hk.cell_some h.c2 hO, hk.cell_some h.c3 hO, hk.cell_some h.c4 hO, h.d8, h.pr, h.kr, h.or, h.ir⟩
theorem ApV.below (h : ApV w wr s a b c N k t cc A Z Q D G y x) (hb : Below wr.heap.size wr w4) : ApV w w4 s a b c N k t cc A Z Q D G y x := ⟨h.ap.below hb, h.act.keep hb, h.qy, h.ay⟩
theorem ApV.more (h : ApV w wr s a b c N k t cc A Z Q D G y x) (hk : k ≤ k') : ApV w wr s a b c N k' t cc A Z Q D G y x := ⟨h.ap.more hk, h.act, h.qy, h.ay⟩
theorem ApV.new (h : ApS w wr s a b c N k t cc A Z Q D G) (hx : x.d < 256 ∧ (-9223372036854775808 ≤ x.p ∧ x.p ≤ 9223372036854775807) ∧ (-9223372036854775808 ≤ x.k ∧ x.k ≤ 9223372036854775807) ∧ x.o < 18446744073709551616 ∧ x.i < 256) :
    ApV w (wr.alloc (.cells #[.int .u8 (x.d : Int), .int .i64 x.p, .int .i64 x.k, .int .u64 (x.o : Int), .int .u8 (x.i : Int)] 32)) s a b c N k t cc A Z Q D G wr.heap.size x := by
  refine ⟨h.below ((Below.refl _ _).alloc (Nat.le_refl _) _), ⟨?_, ?_, ?_, ?_, ?_, hx.1, hx.2.1, hx.2.2.1, hx.2.2.2.1, hx.2.2.2.2⟩, fun e => by have := h.chk.st.lt _ e; omega, fun e => by have := (row_low h.lst.row e).2; omega⟩ <;> (rw [World.cell?_alloc_mark]; rfl)
theorem ApV.call (h : ApV w wr s a b c N k t cc A Z Q D G y x) (hc : Chk D w w4 s a b c N Z' (Wid Q wr w4) k') (hk : Kept wr w4 Q) (hi : Inv N Z' G) : ApV w w4 s a b c N k' t cc A Z' (Wid Q wr w4) D G y x :=
  ⟨h.ap.call hc hk hi rfl, h.act.kept hk h.qy, fun e => e.elim h.qy (fun e => by have := h.act.lt; omega), h.ay⟩
end
theorem perm_at {G : List M.R} (q : Nat) (h : q < G.length) : G.Perm (G[q] :: (G.take q ++ G.drop (q + 1))) := by
  have e : G = G.take q ++ (G[q] :: G.drop (q + 1)) := by rw [List.getElem_cons_drop, List.take_append_drop]
  conv => lhs; rw [e]
  exact List.perm_middle
theorem ap_app {w wr w4 : World} {s a b c N k t cc c1 g1 y : Nat} {A : Option Addr} {Z : St} {Q D : Nat → Prop} {G : List M.R} {r : M.R} {x : Act10} (hc : Chk D w wr s a b c N Z Q k) (hl : Lst wr 37 2 w.heap.size A t cc (rc G) Q s) (hD : ∀ x, rowD A x → D x) (hx : IsAct wr y 0 x) (hy : ¬ rowD A y)
    (hrow : w4.ownsRow w.heap.size 37 2 (.slice (some ⟨g1, 0, none⟩) (t + 1) c1) (t + 1) (rc G ++ rc [r])) (hgr : wr.grownBy w4 (Value.slice A t cc).ownBlock) (hat : (Value.slice A t cc).ownBlock = some g1 ∨ g1 = wr.heap.size) (hlt : g1 < w4.heap.size) (hi : Inv N Z (r :: G)) :
    ApS w w4 s a b c N k (t + 1) c1 (some ⟨g1, 0, none⟩) Z Q (fun x => D x ∨ x = g1) (G ++ [r]) ∧ IsAct w4 y 0 x ∧ ¬ rowD (some ⟨g1, 0, none⟩) y := by
  have q := hc.app2 hD hl hrow hgr hat hlt
  refine ⟨⟨q.1, by rw [rc_append]; exact q.2.1, fun x hx => ?_, hi.perm (List.perm_append_singleton _ _).symm⟩, hx.kept q.2.2.1 hy, fun e => ?_⟩
  · obtain ⟨ad, e, rfl⟩ := hx
    cases e
    exact .inr rfl
  · obtain ⟨ad, e, rfl⟩ := e
    cases e
    rcases q.2.2.2 with e | e
    · exact hy e
    · have := hx.lt; simp only at this; omega
theorem below_call' {B : Nat} {a W w' : World} (h : Below B a W) (hb : Below B W w') : Below B a w' := h.trans hb
theorem ap_swap {w wr w4 : World} {s a b c N k t' c1 y : Nat} {A' : Option Addr} {Z : St} {Q D : Nat → Prop} {G' : List M.R} {x : Act10} (hc : Chk D w wr s a b c N Z Q k) (hx : IsAct wr y 0 x) (hq : ¬ Q y)
    (hb : Below wr.heap.size wr w4) (hrow : w4.ownsRow wr.heap.size 37 2 (.slice A' t' c1) t' (rc G')) (hi : Inv N Z G') :
    ApV w w4 s a b c N k t' c1 A' Z Q (fun x => D x ∨ rowD A' x) G' y x := by
  have hk := Kept.of_below hb (fun _ => False)
  refine ⟨⟨hc.other hk (fun x e => e.elim) (fun x hx => hx.imp id (fun e => (row_low hrow e).1)) (fun x hx => hx.elim (fun e => Nat.lt_of_lt_of_le (hc.st.dl x e) hb.size) (fun e => (row_low hrow e).2)), ⟨⟨hrow.1, ?_⟩, fun x hx => ?_⟩, fun x hx => .inr hx, hi⟩, hx.keep hb, hq, fun e => by have := (row_low hrow e).1; have := hx.lt; omega⟩
  · rcases hrow.2 with e | ⟨g, cap, cur, e1, e2, e3⟩
    · exact .inl e
    · exact .inr ⟨g, cap, cur, e1, Nat.le_trans hc.bel.size e2, e3⟩
  · have := (row_low hrow hx).1
    exact ⟨fun q => by have := hc.st.lt _ q; omega, fun e => by have := hc.bx.lt; omega⟩
theorem apart_tot {N : Nat} {L : List M.R} (h : Pt N [] L) : M.total L = N ∧ ∀ (y : Nat) (hy : y < L.length), 0 ≤ M.total (L.take y) ∧ M.total (L.take y) + L[y].n ≤ N := by
  have ht := h.tot
  rw [M.total_nil] at ht
  refine ⟨by omega, fun y hy => ?_⟩
  have e : L = L.take y ++ (L[y] :: L.drop (y + 1)) := by rw [List.getElem_cons_drop, List.take_append_drop]
  have h1 : M.total L = M.total (L.take y) + (L[y].n + M.total (L.drop (y + 1))) := by
    conv => lhs; rw [e]
    rw [M.total_append, M.total_cons]
  have h2 := M.total_pos' (L := L.take y) (fun r hr => h.pos r (List.mem_of_mem_take hr))
  have h3 := M.total_pos' (L := L.drop (y + 1)) (fun r hr => h.pos r (List.mem_of_mem_drop hr))
  omega
theorem ba_step {wm wr : World} {gi N v x i : Nat} {A : Option Addr} {L : List M.R} {p : Int} (hb : Below wm.heap.size wm wr) (hR : Runs wr A L) (hB : BA wr gi N (mkd (L.take v) p i)) (hA : ∀ ad, A = some ad → ad.block ≠ gi) (hg : wm.heap.size ≤ gi) (hx : x < N) (he : (x : Int) = p + i) :
    Below wm.heap.size wm (wr.setCell ⟨gi, x, none⟩ (.bool true)) ∧ Runs (wr.setCell ⟨gi, x, none⟩ (.bool true)) A L ∧ BA (wr.setCell ⟨gi, x, none⟩ (.bool true)) gi N (mkd (L.take v) p ((i + 1 : Nat) : Int)) := by
  have hk : Kept wr (wr.setCell ⟨gi, x, none⟩ (.bool true)) (fun y => y = gi) := (Kept.refl wr (fun y => y = gi)).setCell (p := ⟨gi, x, none⟩) (fun _ => rfl) _
  refine ⟨hb.setCell (p := ⟨gi, x, none⟩) hg _, hR.besides hk (fun ad e e2 => hA ad e e2), ?_⟩
  have := hB.set x hx true
  rw [mkd_succ _ _ _ x (by omega) he] at this
  exact this
end Go.Proofs.Ytmboibipabkhaaa
