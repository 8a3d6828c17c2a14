/-
  What PileTwo goes by: two piles in a slice.
-/
import Derived.Test.YtmagdhcpbofkbaaK14
namespace Go.Proofs.Ytmagdhcpbofkbaa
open Go.ChangeShapes Go.WideShapes Go.ChangeAt Go.RowKit Go.Deep
set_option linter.unusedVariables false
set_option maxRecDepth 20000

/-- Chunks of two piles have no page in common. -/
theorem Duo.apart {P k1 o1 k2 o2 : Nat} {Z : St} {L1 L2 : List M.R} (h : Duo P Z k1 o1 L1 k2 o2 L2) {r s : M.R} (hr : r ∈ L1) (hs : s ∈ L2) : r.p + r.n ≤ s.p ∨ s.p + s.n ≤ r.p := by
  have hp := h.inv.pt
  have r1 := hp.inn (r := r) (List.mem_append.2 (.inr (List.mem_append.2 (.inl hr))))
  have s1 := hp.inn (r := s) (List.mem_append.2 (.inr (List.mem_append.2 (.inr hs))))
  rcases Int.lt_or_le s.p (r.p + r.n) with h1 | h1
  · rcases Int.lt_or_le r.p (s.p + s.n) with h2 | h2
    · exfalso
      obtain ⟨x, hx⟩ : ∃ x, x = max r.p s.p := ⟨_, rfl⟩
      have a := M.cov_mem hr (x := x)
      have b := M.cov_mem hs (x := x)
      rw [M.one_in (by omega) (by omega)] at a b
      have c := hp.le x
      rw [M.cov_append, M.cov_append] at c
      have d := M.cov_nonneg x (M.all Z.K)
      have e := M.cov_nonneg x Z.l
      omega
    · exact .inr h2
  · exact .inl h1
/-- Two piles, whose pointers lie in a row at y. -/
structure Tw (w wr : World) (s a b c P y p1 p2 : Nat) (Z : St) (L1 L2 : List M.R) (k u v : Nat) : Prop where
  st : St2 w wr s a b c P Z (fun x => x = y) k p1 0 1 L1 p2 1 2 L2
  lim : Lim Z L1 L2 u v
  y0 : wr.cell? ⟨y, 0, none⟩ = some (.pointer (some ⟨p1, 0, none⟩))
  y1 : wr.cell? ⟨y, 1, none⟩ = some (.pointer (some ⟨p2, 0, none⟩))
  n1 : p1 ≠ 0
  n2 : p2 ≠ 0
section
variable {w wr w' : World} {s a b c P y p1 p2 k u v : Nat} {Z : St} {L1 L2 : List M.R}
theorem Tw.below (h : Tw w wr s a b c P y p1 p2 Z L1 L2 k u v) (hb : Below wr.heap.size wr w') : Tw w w' s a b c P y p1 p2 Z L1 L2 k u v :=
  ⟨h.st.below hb, h.lim, (hb.cell (p := ⟨y, 0, none⟩) (lt_of_cell h.y0)).trans h.y0, (hb.cell (p := ⟨y, 1, none⟩) (lt_of_cell h.y1)).trans h.y1, h.n1, h.n2⟩
theorem Tw.more (h : Tw w wr s a b c P y p1 p2 Z L1 L2 k u v) {k' : Nat} (hk : k ≤ k') : Tw w wr s a b c P y p1 p2 Z L1 L2 k' u v := ⟨h.st.more hk, h.lim, h.y0, h.y1, h.n1, h.n2⟩
/-- The pile that is chosen, the other one, and back. -/
theorem Tw.sel (h : Tw w wr s a b c P y p1 p2 Z L1 L2 k u v) (q : Nat) (hq : q = 0 ∨ q = 1) : ∃ (pa ka oa : Nat) (La : List M.R) (pb kb ob : Nat) (Lb : List M.R), wr.cell? ⟨y, q, none⟩ = some (.pointer (some ⟨pa, 0, none⟩)) ∧ St2 w wr s a b c P Z (fun x => x = y) k pa ka oa La pb kb ob Lb ∧ Lim Z La Lb u v ∧ ka ≤ 255 ∧ oa < 18446744073709551616 ∧
    ∀ W Z' La' Lb' k' u' v', St2 w W s a b c P Z' (fun x => x = y) k' pa ka oa La' pb kb ob Lb' → Lim Z' La' Lb' u' v' → Kept wr W (fun x => ¬ x = y ∧ w.heap.size ≤ x) → ∃ L1' L2', Tw w W s a b c P y p1 p2 Z' L1' L2' k' u' v' := by
  rcases hq with rfl | rfl
  · refine ⟨p1, 0, 1, L1, p2, 1, 2, L2, h.y0, h.st, h.lim, by omega, by omega, fun W Z' La' Lb' k' u' v' h1 h2 hk => ⟨La', Lb', h1, h2, hk.cell_some h.y0 (fun e => e.1 rfl), hk.cell_some h.y1 (fun e => e.1 rfl), h.n1, h.n2⟩⟩
  · refine ⟨p2, 1, 2, L2, p1, 0, 1, L1, h.y1, h.st.swap h.n2, h.lim.swap, by omega, by omega, fun W Z' La' Lb' k' u' v' h1 h2 hk => ⟨Lb', La', h1.swap h.n1, h2.swap, hk.cell_some h.y0 (fun e => e.1 rfl), hk.cell_some h.y1 (fun e => e.1 rfl), h.n1, h.n2⟩⟩
/-- At the beginning. -/
theorem Tw.begin {w2 w3 w4 : World} {Q : Nat → Prop} (h : Chk (fun _ => False) w w2 s a b c P (St.new P) Q 0) (b3 : Below w2.heap.size w2 w3) (x3 : Box4 w3 w2.heap.size (.pointer (some ⟨s, 0, none⟩)) (.int .i64 (0 : Nat)) (.int .u64 (1 : Nat)) (.slice none 0 0))
    (b4 : Below w3.heap.size w3 w4) (x4 : Box4 w4 w3.heap.size (.pointer (some ⟨s, 0, none⟩)) (.int .i64 (1 : Nat)) (.int .u64 (2 : Nat)) (.slice none 0 0)) (ty : TypeId) :
    Tw w (w4.alloc (.cells #[.pointer (some ⟨w2.heap.size, 0, none⟩), .pointer (some ⟨w3.heap.size, 0, none⟩)] ty)) s a b c P w4.heap.size w2.heap.size w3.heap.size (St.new P) [] [] 0 0 0 := by
  have h3 := t_new (k2 := 1) (o2 := 2) (w' := w3) h b3 x3
  have h4 := t_new2 h3 b4 x4
  have hs := h.bx.lt
  have b5 : Below w4.heap.size w4 (w4.alloc (.cells #[.pointer (some ⟨w2.heap.size, 0, none⟩), .pointer (some ⟨w3.heap.size, 0, none⟩)] ty)) := (Below.refl _ _).alloc (Nat.le_refl _) _
  exact ⟨h4.2.own (Kept.of_below b5 (fun _ => False)) (fun x e => e.elim) (fun x e => .inr (by rw [e]; simp)), Lim.new P, by rw [World.cell?_alloc_mark]; rfl, by rw [World.cell?_alloc_mark]; rfl, by omega, h4.1⟩
theorem Kept.drewK {w w1 : World} {O : Nat → Prop} (h : Kept w.drew w1 O) : Kept w w1 O := ⟨h.os, h.tape, h.output, h.size, h.block⟩
/-- A run of a list. -/
theorem runs_at {w : World} {A : Option Addr} {l : List M.R} (h : Runs w A l) {j : Nat} (hj : j < l.length) : ∃ bl o, A = some ⟨bl, o, none⟩ ∧ w.cell? ⟨bl, o + j * 2, none⟩ = some (.int .i64 l[j].p) ∧ w.cell? ⟨bl, o + j * 2 + 1, none⟩ = some (.int .i64 l[j].n) := by
  obtain ⟨bl, o, e, hc⟩ := h (by omega)
  exact ⟨bl, o, e, hc j hj⟩
end
end Go.Proofs.Ytmagdhcpbofkbaa
