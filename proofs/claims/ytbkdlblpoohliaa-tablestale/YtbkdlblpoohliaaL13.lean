/-
  A table of strings, and lists of the handles that are live and that were.
-/
import Derived.Test.YtbkdlblpoohliaaA13
import Derived.Test.YtbkdlblpoohliaaStdS
import Derived.Test.YtbkdlblpoohliaaArg13
import Derived.Test.YtbkdlblpoohliaaN13
namespace Go.Proofs.Ytbkdlblpoohliaa
open Go.ChangeShapes Go.WideShapes Go.ChangeAt Go.RowKit Go.Deep T13
set_option linter.unusedVariables false
set_option maxRecDepth 20000

abbrev xs13 : TS.Th := ⟨#[120]⟩
structure St13 (w wr : World) (t : Nat) (S : M.Tt TS.Th) (Q : Nat → Prop) (k : Nat) (lp sp : List (Nat × Nat)) (A : Option Addr) (n c : Nat) (A2 : Option Addr) (n2 c2 : Nat) : Prop where
  std : TS.Std w wr t 3 S Q k
  lv : Lst wr 31 w.heap.size A n c (hds (M.hnds 3 lp)) Q
  sl : Lst wr 31 w.heap.size A2 n2 c2 (hds (M.hnds 3 sp)) Q
  ap : ∀ x, rowD A x → ¬ rowD A2 x
  inv : M.Inv13 S xs13 lp sp k
section
variable {w wr w' : World} {t k k' n c n2 c2 : Nat} {S : M.Tt TS.Th} {Q : Nat → Prop} {lp sp : List (Nat × Nat)} {A A2 : Option Addr}
theorem St13.below (h : St13 w wr t S Q k lp sp A n c A2 n2 c2) (hb : Below wr.heap.size wr w') : St13 w w' t S Q k lp sp A n c A2 n2 c2 := ⟨h.std.below hb, h.lv.below hb, h.sl.below hb, h.ap, h.inv⟩
theorem St13.more (h : St13 w wr t S Q k lp sp A n c A2 n2 c2) (hk : k ≤ k') : St13 w wr t S Q k' lp sp A n c A2 n2 c2 := ⟨h.std.more hk, h.lv, h.sl, h.ap, h.inv.more hk⟩
theorem St13.n_eq (h : St13 w wr t S Q k lp sp A n c A2 n2 c2) : n = lp.length := by have := hds_len h.lv.row; rw [M.hnds_length] at this; exact this
theorem St13.n2_eq (h : St13 w wr t S Q k lp sp A n c A2 n2 c2) : n2 = sp.length := by have := hds_len h.sl.row; rw [M.hnds_length] at this; exact this
theorem St13.call (h : St13 w wr t S Q k lp sp A n c A2 n2 c2) (hs : TS.Std w w' t 3 S (Wid Q wr w') k) (hk : Kept wr w' Q) : St13 w w' t S (Wid Q wr w') k lp sp A n c A2 n2 c2 := ⟨hs, h.lv.call hk, h.sl.call hk, h.ap, h.inv⟩
/-- A live handle. -/
theorem St13.live (h : St13 w wr t S Q k lp sp A n c A2 n2 c2) (hk : k ≤ 1000) {j : Nat} (hj : j < n) : ∃ (g i y P : Nat), lp[j]? = some (i, y) ∧ A = some ⟨g, 0, none⟩ ∧ wr.cell? ⟨g, j, none⟩ = some (.int .u64 (P : Int)) ∧ M.hpV 3 (i : Int) (y : Int) = (P : Int) ∧ P < 18446744073709551616 ∧ S.liv 3 P = some i ∧ S.s[i]? = some ⟨true, y, xs13⟩ := by
  have hn := h.n_eq
  obtain ⟨p, hp⟩ : ∃ p, lp[j]? = some p := ⟨_, List.getElem?_eq_getElem (by omega)⟩
  obtain ⟨P, hP, h64, hl, hs⟩ := h.inv.live (K := 3) (by decide) (Nat.le_trans h.std.len hk) hk (List.mem_of_getElem? hp)
  obtain ⟨g, e, hc⟩ := hd_cell h.lv.row (M.hnds_at hp)
  rw [hP] at hc
  exact ⟨g, p.1, p.2, P, hp, e, hc, hP, h64, hl, hs⟩
theorem St13.dead (h : St13 w wr t S Q k lp sp A n c A2 n2 c2) (hk : k ≤ 1000) {j : Nat} (hj : j < n2) : ∃ (g P : Nat), A2 = some ⟨g, 0, none⟩ ∧ wr.cell? ⟨g, j, none⟩ = some (.int .u64 (P : Int)) ∧ P < 18446744073709551616 ∧ S.liv 3 P = none := by
  have hn := h.n2_eq
  obtain ⟨p, hp⟩ : ∃ p, sp[j]? = some p := ⟨_, List.getElem?_eq_getElem (by omega)⟩
  obtain ⟨P, hP, h64, hl⟩ := h.inv.dead (K := 3) (by decide) (Nat.le_trans h.std.len hk) hk (List.mem_of_getElem? hp)
  obtain ⟨g, e, hc⟩ := hd_cell h.sl.row (M.hnds_at hp)
  rw [hP] at hc
  exact ⟨g, P, e, hc, h64, hl⟩
end
end Go.Proofs.Ytbkdlblpoohliaa
