/-
  What follows for RunsOrder: pages cut into parts that don't meet, given back in whatever order.
-/
import Derived.Test.YtbmibggjdilhkaaLaw6
namespace Go.Proofs.Ytbmibggjdilhkaa
open Go.ChangeShapes Go.WideShapes Go.ChangeAt Go.RowKit Go.Deep
set_option linter.unusedVariables false
set_option maxRecDepth 20000

/-- How many pages a cut stands for; where they begin; whether they are given back. -/
def cutN (xs : List UInt8) (j : Nat) : Nat := (xs.getD j 0).toNat % 5 + 1
def cutA (xs : List UInt8) : Nat → Nat
  | 0 => 0
  | j + 1 => cutA xs j + cutN xs j
def cutB (xs : List UInt8) (j : Nat) : Bool := decide ((xs.getD j 0).toNat % 3 ≠ 0)
def cutIn (xs : List UInt8) (j : Nat) (x : Int) : Prop := (cutA xs j : Int) ≤ x ∧ x < (cutA xs j : Int) + (cutN xs j : Int)
theorem cutN_pos (xs : List UInt8) (j : Nat) : 1 ≤ cutN xs j ∧ cutN xs j ≤ 5 := by unfold cutN; omega
theorem cutA_le (xs : List UInt8) (j : Nat) : cutA xs j ≤ 5 * j := by
  induction j with
  | zero => exact Nat.le_refl _
  | succ j ih => have := cutN_pos xs j; unfold cutA; omega
theorem cutA_lt (xs : List UInt8) (i d : Nat) : cutA xs i + cutN xs i ≤ cutA xs (i + 1 + d) := by
  induction d with
  | zero => exact Nat.le_refl _
  | succ d ih => have e : cutA xs (i + 1 + (d + 1)) = cutA xs (i + 1 + d) + cutN xs (i + 1 + d) := rfl; omega
theorem cut_apart {xs : List UInt8} {i j : Nat} {x : Int} (h : i ≠ j) (h1 : cutIn xs i x) (h2 : cutIn xs j x) : False := by
  unfold cutIn at h1 h2
  rcases Nat.lt_trichotomy i j with h3 | h3 | h3
  · have := cutA_lt xs i (j - i - 1)
    rw [show i + 1 + (j - i - 1) = j by omega] at this
    omega
  · exact h h3
  · have := cutA_lt xs j (i - j - 1)
    rw [show j + 1 + (i - j - 1) = i by omega] at this
    omega

/-- The other order. -/
def turnTo (n t i : Nat) : Nat := if n % 7 = 0 then n - 1 - i else (i * 7 + t) % n
theorem turnTo_lt {n t i : Nat} (hi : i < n) : turnTo n t i < n := by
  unfold turnTo
  split
  · omega
  · exact Nat.mod_lt _ (by omega)
theorem co7 : ∀ n, n < 21 → n % 7 ≠ 0 → Nat.gcd n 7 = 1 := by decide
theorem turnTo_inj {n t i j : Nat} (hn : n < 21) (hi : i < n) (hj : j < n) (h : turnTo n t i = turnTo n t j) : i = j := by
  unfold turnTo at h
  by_cases c : n % 7 = 0
  · rw [if_pos c, if_pos c] at h
    omega
  · rw [if_neg c, if_neg c] at h
    have key : ∀ a b : Nat, a < n → b < n → b ≤ a → (a * 7 + t) % n = (b * 7 + t) % n → a = b := fun a b ha hb hab h => by
      have h1 := Nat.sub_mod_eq_zero_of_mod_eq h
      have h2 : a * 7 + t - (b * 7 + t) = 7 * (a - b) := by omega
      rw [h2] at h1
      have h3 : n ∣ 7 * (a - b) := Nat.dvd_of_mod_eq_zero h1
      have h4 : n ∣ a - b := Nat.Coprime.dvd_of_dvd_mul_left (co7 n hn c) h3
      have h5 := Nat.eq_zero_of_dvd_of_lt h4 (by omega)
      omega
    rcases Nat.le_total i j with h1 | h1
    · exact (key j i hj hi h1 h.symm).symm
    · exact key i j hi hj h1 h
theorem onto7 : ∀ n, n < 21 → n % 7 ≠ 0 → ∀ t, t < n → ∀ y, y < n → ∃ i, i < n ∧ (i * 7 + t) % n = y := by decide +kernel
theorem turnTo_onto {n t y : Nat} (hn : n < 21) (hy : y < n) : ∃ i, i < n ∧ turnTo n t i = y := by
  unfold turnTo
  by_cases c : n % 7 = 0
  · exact ⟨n - 1 - y, by omega, by rw [if_pos c]; omega⟩
  · obtain ⟨i, hi, e⟩ := onto7 n hn c (t % n) (Nat.mod_lt _ (by omega)) y hy
    refine ⟨i, hi, ?_⟩
    rw [if_neg c, ← e, Nat.add_mod, Nat.add_mod (i * 7) (t % n), Nat.mod_mod]

/-- The runs behind i rounds, in an order. -/
structure Acc (xs : List UInt8) (s : Nat → Nat) (i : Nat) (l : List M.R) : Prop where
  ok : M.Ok (-1) 1000 l
  pg : ∀ x, M.Pg l x ↔ ∃ j, j < i ∧ cutB xs (s j) = true ∧ cutIn xs (s j) x
  len : l.length ≤ i
theorem Acc.zero (xs : List UInt8) (s : Nat → Nat) : Acc xs s 0 [] := ⟨trivial, fun x => ⟨fun h => absurd h (M.Pg_nil x), fun ⟨j, h, _⟩ => by omega⟩, Nat.le_refl _⟩
theorem Acc.wide {xs : List UInt8} {s : Nat → Nat} {i : Nat} {l : List M.R} (h : Acc xs s i l) : M.Ok (-1) 1073741824 l := h.ok.wide (by omega)
theorem Acc.skip {xs : List UInt8} {s : Nat → Nat} {i : Nat} {l : List M.R} (h : Acc xs s i l) (hc : cutB xs (s i) = false) : Acc xs s (i + 1) l := by
  refine ⟨h.ok, fun x => ?_, by have := h.len; omega⟩
  rw [h.pg x]
  constructor
  · rintro ⟨j, h1, h2⟩; exact ⟨j, by omega, h2⟩
  · rintro ⟨j, h1, h2, h3⟩
    refine ⟨j, ?_, h2, h3⟩
    rcases Nat.lt_or_ge j i with h4 | h4
    · exact h4
    · obtain rfl : j = i := by omega
      rw [hc] at h2
      cases h2
theorem Acc.give {xs : List UInt8} {s : Nat → Nat} {i : Nat} {l : List M.R} (h : Acc xs s i l) (hc : cutB xs (s i) = true) (hs : ∀ j, j < i → s j ≠ s i) (h20 : s i < 21) :
    giveB l 1000 (cutA xs (s i) : Int) (cutN xs (s i) : Int) = true ∧ Acc xs s (i + 1) (giveL l 1000 (cutA xs (s i) : Int) (cutN xs (s i) : Int)) := by
  have ha := cutA_le xs (s i)
  have hn := cutN_pos xs (s i)
  have hno : M.has l (cutA xs (s i) : Int) (cutN xs (s i) : Int) = false := (M.has_not h.ok _ _ (by omega)).2 (fun x h1 h2 h3 => by
    obtain ⟨j, hj, _, hin⟩ := (h.pg x).1 h3
    exact cut_apart (hs j hj) hin ⟨h1, h2⟩)
  have hgb : giveB l 1000 (cutA xs (s i) : Int) (cutN xs (s i) : Int) = true := by rw [giveB_of (by omega) (by omega) (by omega), hno]; rfl
  have hg := M.give_ok h.ok (p := (cutA xs (s i) : Int)) (n := (cutN xs (s i) : Int)) (by omega) (by omega) (by omega) hno
  refine ⟨hgb, ?_⟩
  have hlen := giveL_length (l := l) (N := 1000) (p := (cutA xs (s i) : Int)) (n := (cutN xs (s i) : Int))
  rw [giveL, if_pos hgb] at hlen ⊢
  refine ⟨hg.1, fun x => ?_, by have := h.len; omega⟩
  rw [hg.2.2 x, h.pg x]
  constructor
  · rintro (⟨j, h1, h2⟩ | h1)
    · exact ⟨j, by omega, h2⟩
    · exact ⟨i, by omega, hc, h1⟩
  · rintro ⟨j, h1, h2, h3⟩
    rcases Nat.lt_or_ge j i with h4 | h4
    · exact .inl ⟨j, h4, h2, h3⟩
    · obtain rfl : j = i := by omega
      exact .inr h3
theorem Acc.same {xs : List UInt8} {n t : Nat} {l m : List M.R} (hl : Acc xs (fun i => i) n l) (hm : Acc xs (turnTo n t) n m) (hn : n < 21) : l = m :=
  M.uniq _ _ _ _ _ _ hl.ok hm.ok (fun x => by
    rw [hl.pg x, hm.pg x]
    constructor
    · rintro ⟨j, h1, h2, h3⟩
      obtain ⟨i, hi, e⟩ := turnTo_onto (t := t) hn h1
      exact ⟨i, hi, by rw [e]; exact h2, by rw [e]; exact h3⟩
    · rintro ⟨i, hi, h2, h3⟩
      exact ⟨turnTo n t i, turnTo_lt hi, h2, h3⟩)

/-- A row of integers that may be written. -/
def ArrF (w : World) (g n : Nat) (f : Nat → Int) : Prop := ∀ j, j < n → w.cell? ⟨g, j, none⟩ = some (.int .i64 (f j)) ∧ w.frozen? ⟨g, j, none⟩ = false
theorem ArrF.set {w : World} {g n : Nat} {f : Nat → Int} (h : ArrF w g n f) (i : Nat) (hi : i < n) (v : Int) : ArrF (w.setCell ⟨g, i, none⟩ (.int .i64 v)) g n (fun j => if j = i then v else f j) := fun j hj => by
  refine ⟨?_, by rw [World.frozen?_setCell]; exact (h j hj).2⟩
  by_cases e : j = i
  · subst e
    rw [World.cell?_setCell_same _ _ _ (h j hj).1]
    simp
  · rw [World.cell?_setCell_other w _ _ _ (fun h2 => e (by injection h2 with _ h3; exact h3.symm)), (h j hj).1]
    simp [e]
theorem ArrF.keep {w w' : World} {g n : Nat} {f : Nat → Int} (h : ArrF w g n f) (hb : w'.heap[g]? = w.heap[g]?) : ArrF w' g n f := fun j hj => ⟨(World.cell?_of_block (w := w) (a := ⟨g, j, none⟩) hb).trans (h j hj).1, (World.frozen?_of_block (w := w) (a := ⟨g, j, none⟩) hb).trans (h j hj).2⟩
theorem make_row (W : World) (z : Nat) (hz : z ≤ 100) : (Instr.makeSlice 39 (.int .i64 (z : Int)) (.int .i64 (z : Int))).run Try.prog W = .ok (.slice (some ⟨W.heap.size, 0, none⟩) z z) (W.alloc (.cells (madeCells #[.int .i64 0] z) 3)) :=
  run_make_row' 39 3 (.int .i64 0) 8 Try.underlying39 (by kernel_rfl) rfl .i64 .i64 z (by omega) (by omega) W
theorem row_made (z : Nat) (W : World) : ArrF (W.alloc (.cells (madeCells #[.int .i64 0] z) 3)) W.heap.size z (fun _ => 0) := fun j hj => by
  have hl : (madeCells #[Value.int .i64 0] z).toList = List.replicate z (.int .i64 0) := toList_madeCells_one _ _
  refine ⟨?_, ?_⟩
  · rw [World.cell?_alloc_mark, ← Array.getElem?_toList, hl]
    simp [hj]
  · rw [World.frozen?_alloc_mark]
    simp
end Go.Proofs.Ytbmibggjdilhkaa
