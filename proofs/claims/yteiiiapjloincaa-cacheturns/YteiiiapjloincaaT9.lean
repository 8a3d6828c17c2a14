/-
  What CacheTurns keeps: two caches, and a pile of numbers beside them.
-/
import Derived.Test.YteiiiapjloincaaArg9
import Derived.Test.YteiiiapjloincaaL9
import Derived.Deep.AppendLies
import Derived.Lib.SmallJoins
namespace Go.Proofs.Yteiiiapjloincaa.M

/-- One class alone keeps something. -/
def only (c : Int) (L : List Int) : Ky := upd empty c L
theorem only_nil (c : Int) : only c [] = empty := by
  funext d
  unfold only upd empty
  split <;> rfl
theorem only_at (c : Int) (L : List Int) : only c L c = L := upd_self _ _ _
theorem only_upd (c : Int) (L K : List Int) : upd (only c L) c K = only c K := by
  funext d
  unfold only upd
  split <;> rfl
theorem only_push {c x : Int} {L : List Int} (h0 : 0 ≤ c) (h7 : c < 7) (hx : 0 ≤ x) (h4 : L.length < 4) : pushB (only c L) c x = true ∧ pushF (only c L) c x = only c (L ++ [x]) := by
  have hb : pushB (only c L) c x = true := by rw [pushB_len h0 h7 hx, only_at]; simp [h4]
  exact ⟨hb, by rw [pushF_yes _ _ _ hb, only_at, only_upd]⟩
theorem only_full {c x : Int} {L : List Int} (h4 : ¬ L.length < 4) : pushB (only c L) c x = false ∧ pushF (only c L) c x = only c L := by
  have hb : pushB (only c L) c x = false := pushB_no _ _ _ (by rw [only_at]; omega)
  exact ⟨hb, pushF_no _ _ _ hb⟩
theorem only_pop {c x : Int} {L : List Int} : popV (only c (L ++ [x])) c = x ∧ popB (only c (L ++ [x])) c = true ∧ popF (only c (L ++ [x])) c = only c L := by
  obtain ⟨h1, h2, h3⟩ := pop_snoc (only_at c (L ++ [x]))
  refine ⟨h1, h2, ?_⟩
  unfold popF
  rw [only_at, List.dropLast_concat, only_upd]
theorem only_none {c : Int} : popV (only c []) c = 0 ∧ popB (only c []) c = false ∧ popF (only c []) c = only c [] := by
  obtain ⟨h1, h2⟩ := pop_nil (only_at c [])
  exact ⟨h1, h2, popF_no _ _ h2⟩
theorem only_sum {c : Int} {L : List Int} (h0 : 0 ≤ c) (h7 : c < 7) : sum (only c L) = (L.length : Int) * pg c := by
  rcases (by omega : c = 0 ∨ c = 1 ∨ c = 2 ∨ c = 3 ∨ c = 4 ∨ c = 5 ∨ c = 6) with rfl | rfl | rfl | rfl | rfl | rfl | rfl <;> simp [sum, sumTo, only, upd, empty]
theorem only_all {c : Int} {L : List Int} (h0 : 0 ≤ c) (h7 : c < 7) : all (only c L) = L.map fun p => ⟨p, pg c⟩ := by
  rcases (by omega : c = 0 ∨ c = 1 ∨ c = 2 ∨ c = 3 ∨ c = 4 ∨ c = 5 ∨ c = 6) with rfl | rfl | rfl | rfl | rfl | rfl | rfl <;> simp [all, allTo, rows, only, upd, empty]
end Go.Proofs.Yteiiiapjloincaa.M
namespace Go.Proofs.Yteiiiapjloincaa
open Go.ChangeShapes Go.WideShapes Go.ChangeAt Go.RowKit Go.Deep
set_option linter.unusedVariables false
set_option maxRecDepth 20000

def intsI (L : List Int) : List Value := L.map fun n => .int .i64 n
theorem intsI_snoc (L : List Int) (x : Int) : intsI (L ++ [x]) = intsI L ++ intsI [x] := by simp [intsI]
theorem info_int9 : ∃ i : TypeInfo, Try.prog.info? 3 = some i ∧ i.zero = some (.int .i64 0) ∧ i.size = 1 ∧ i.bytes = 8 := by
  obtain ⟨i0, hi0, hz0, hz1, hz2⟩ := info_parts (P := Try.prog) (e := 3) (z := .int .i64 0) (size := 1) (bytes := 8) (by kernel_rfl)
  exact ⟨i0, hi0, hz0, hz1, hz2⟩
structure Turn (w wr : World) (B g gd : Nat) (c : Int) (A : Option Addr) (n cap : Nat) (L : List Int) : Prop where
  kc : Kp w wr g (M.only c L)
  kd : Kp w wr gd M.empty
  ne : g ≠ gd
  low : g < B ∧ gd < B
  bw : w.heap.size ≤ B
  bs : B ≤ wr.heap.size
  nn : n = L.length
  row : wr.ownsRow B 3 1 (.slice A n cap) n (intsI L)
section
variable {w wr w' : World} {B g gd : Nat} {c : Int} {A : Option Addr} {n cap : Nat} {L L' : List Int}
theorem Turn.len (h : Turn w wr B g gd c A n cap L) : n ≤ 4 := by
  have := h.kc.has.good.four c
  rw [M.only_at] at this
  have := h.nn
  omega
theorem Turn.room (h : Turn w wr B g gd c A n cap L) : n ≤ cap := by
  obtain ⟨h1, h2⟩ := h.row
  rcases h2 with ⟨e, _⟩ | ⟨gp, cp, cur, e, hb, hgp, k1, k2, k3, k4⟩
  · injection e with e1 e2 e3
    omega
  · injection e with e1 e2 e3
    omega
/-- The cache's block alone has changed. -/
theorem Turn.grown (h : Turn w wr B g gd c A n cap L) (hk : Kp w w' g (M.only c L')) (hg : wr.grownBy w' (some g)) : Kp w w' gd M.empty ∧ w'.ownsRow B 3 1 (.slice A n cap) n (intsI L) ∧ B ≤ w'.heap.size := by
  refine ⟨h.kd.other h.ne.symm h.kc.old hg, h.row.kept hg ?_, Nat.le_trans h.bs hg.size⟩
  right
  intro e
  have := (h.row.lt g e).1
  have := h.low.1
  omega
theorem Turn.same (h : Turn w wr B g gd c A n cap L) (hk : Kp w w' g (M.only c L)) (hg : wr.grownBy w' (some g)) : Turn w w' B g gd c A n cap L :=
  ⟨hk, (h.grown hk hg).1, h.ne, h.low, h.bw, (h.grown hk hg).2.2, h.nn, (h.grown hk hg).2.1⟩
/-- The last one is left out. -/
theorem Turn.drop {x : Int} {m : Nat} (h : Turn w wr B g gd c A (m + 1) cap (L ++ [x])) (hk : Kp w w' g (M.only c L)) (hg : wr.grownBy w' (some g)) : Turn w w' B g gd c A m cap L := by
  have hh := h.grown hk hg
  have hm : m = L.length := by have := h.nn; simp at this; exact this
  refine ⟨hk, hh.1, h.ne, h.low, h.bw, hh.2.2, hm, ?_⟩
  obtain ⟨h1, h2⟩ := hh.2.1
  rcases h2 with ⟨e, _⟩ | ⟨gp, cp, cur, e, hb, hgp, k1, k2, k3, k4⟩
  · cases e
  · injection e with e1 e2 e3
    subst e1 e3
    refine ⟨by simp [intsI, hm], .inr ⟨gp, cap, cur, rfl, hb, hgp, by omega, k2, k3, ?_⟩⟩
    have : cur.toList.take (m * 1) = (cur.toList.take ((m + 1) * 1)).take (m * 1) := by rw [List.take_take, Nat.min_eq_left (by omega)]
    rw [this, k4, intsI_snoc, List.take_append_of_le_length (by simp [intsI]; omega), List.take_of_length_le (by simp [intsI]; omega)]
theorem Turn.at (h : Turn w wr B g gd c A n cap L) (j : Nat) (hj : j < n) : ∃ gp, A = some ⟨gp, 0, none⟩ ∧ wr.cell? ⟨gp, j, none⟩ = some (.int .i64 (L[j]'(by rw [← h.nn]; exact hj))) := by
  obtain ⟨h1, h2⟩ := h.row
  rcases h2 with ⟨e, e2⟩ | ⟨gp, cp, cur, e, hb, hgp, k1, k2, k3, k4⟩
  · injection e with e1 e2 e3
    omega
  · injection e with e1 e2 e3
    refine ⟨gp, e1, ?_⟩
    unfold World.cell?
    rw [hgp]
    have hjl : j < (intsI L).length := by simp [intsI]; rw [← h.nn]; exact hj
    have : (cur.toList.take (n * 1))[j]? = (intsI L)[j]? := by rw [k4]
    rw [Nat.mul_one, List.getElem?_take_of_lt hj] at this
    simp only [Array.getElem?_toList] at this
    rw [List.getElem?_eq_getElem hjl] at this
    simp [this, intsI]
theorem Turn.below (h : Turn w wr B g gd c A n cap L) (hb : Below wr.heap.size wr w') : Turn w w' B g gd c A n cap L :=
  ⟨h.kc.below hb, h.kd.below hb, h.ne, h.low, h.bw, Nat.le_trans h.bs hb.size, h.nn, h.row.kept (row := none) ⟨hb.os, hb.tape, hb.output, hb.size, fun i hi _ => hb.block i hi⟩ (by
    cases A with
    | none => exact .inl rfl
    | some a => exact .inr (by simp [Value.ownBlock]))⟩
end
/-- A number is put on the pile, behind what the cache has got. -/
theorem Turn.push {w wr w1 w2 w3 : World} {B g gd : Nat} {c x : Int} {A : Option Addr} {n cap gp cp : Nat} {L : List Int} (h : Turn w wr B g gd c A n cap L) (hk : Kp w w1 g (M.only c (L ++ [x]))) (hg : wr.grownBy w1 (some g)) (hb : Below w1.heap.size w1 w2)
    (hrow : w3.ownsRow B 3 1 (.slice (some ⟨gp, 0, none⟩) (n + 1) cp) (n + 1) (intsI L ++ intsI [x])) (hgr : w2.grownBy w3 (Value.slice A n cap).ownBlock) :
    Turn w w3 B g gd c (some ⟨gp, 0, none⟩) (n + 1) cp (L ++ [x]) := by
  have hh := h.grown hk hg
  have lo : ∀ k, (Value.slice A n cap).ownBlock = some k → B ≤ k := fun k hk => (h.row.lt k hk).1
  have kc2 := hk.below hb
  have kd2 := hh.1.below hb
  have bs2 : B ≤ w2.heap.size := Nat.le_trans hh.2.2 hb.size
  have bel : Below B w2 w3 := (Below.refl _ _).grown hgr bs2 lo
  have belw : Below w.heap.size w w3 := kc2.bel.trans (bel.mono h.bw)
  refine ⟨⟨kc2.has.keep (bel.block g h.low.1), belw, kc2.old⟩, ⟨kd2.has.keep (bel.block gd h.low.2), belw, kd2.old⟩, h.ne, h.low, h.bw, Nat.le_trans bs2 hgr.size, by simp [h.nn], ?_⟩
  rw [intsI_snoc]
  exact hrow
end Go.Proofs.Yteiiiapjloincaa
