/-
  An argument that is a slice of runs.
-/
import Derived.Test.YtbmibggjdilhkaaAw5
namespace Go.Proofs.Ytbmibggjdilhkaa
open Go.ChangeShapes Go.WideShapes Go.ChangeAt Go.RowKit Go.Deep
set_option linter.unusedVariables false
set_option maxRecDepth 20000

theorem laidOut : laidOutB Try.prog = true := by kernel_rfl
section
variable {H : Type} {enc : TypeId × Value → H} {W : World} {base : Nat} {spare : Nat → Bool} {held : Bool}
theorem list_of {α : Type} {Q : Nat → α → Prop} (n : Nat) (h : ∀ i, i < n → ∃ x, Q i x) : ∃ l : List α, l.length = n ∧ ∀ i (hi : i < l.length), Q i l[i] := by
  induction n with
  | zero => exact ⟨[], rfl, fun i hi => absurd hi (by simp)⟩
  | succ n ih =>
    obtain ⟨l, h1, h2⟩ := ih (fun i hi => h i (by omega))
    obtain ⟨x, hx⟩ := h n (by omega)
    refine ⟨l ++ [x], by simp [h1], fun i hi => ?_⟩
    rcases Nat.lt_or_ge i l.length with hl | hl
    · rw [List.getElem_append_left hl]
      exact h2 i hl
    · have e : i = n := by simp at hi; omega
      subst e
      rw [List.getElem_append_right (by omega)]
      simpa using hx
theorem one_of {cs : List Value} {j n : Nat} (hn : cs.length = n) (hj : j < n) : ∃ v, cs[j]? = some v ∧ (cs.drop j).take 1 = [v] := by
  have h1 : j < cs.length := by omega
  refine ⟨cs[j], List.getElem?_eq_getElem h1, ?_⟩
  rw [List.drop_eq_getElem_cons h1]
  rfl
theorem two36 : ∃ fs : Array Field, Try.prog.underlying 36 = some (.struct fs) ∧ oneCellFields Try.prog fs = true ∧ fs.size = 2 ∧ Try.prog.cellsOf 36 = 2 ∧
    (∃ f, fs[0]? = some f ∧ f.type = 3) ∧ ∃ f, fs[1]? = some f ∧ f.type = 3 :=
  ⟨_, Try.underlying36, by kernel_rfl, by rfl, by kernel_rfl, ⟨_, rfl, rfl⟩, ⟨_, rfl, rfl⟩⟩
def IsRun (w : World) (bl o : Nat) (x : M.R) : Prop := w.cell? ⟨bl, o, none⟩ = some (.int .i64 x.p) ∧ w.cell? ⟨bl, o + 1, none⟩ = some (.int .i64 x.n)
theorem run_open {fuel : Nat} {cs : List Value} {x : DataW H × List MemPlace} {a : Addr} (hc : W.cells? base a (Try.prog.cellsOf 36) = some cs) (h : DataW.trod enc Try.prog W base spare held fuel 36 cs = some x) :
    ∃ y : M.R, a.spot = none ∧ IsRun W a.block a.off y := by
  obtain ⟨fs, hu, hone, hsz, hcell, ⟨f0, h0, t0⟩, ⟨f1, h1, t1⟩⟩ := two36
  obtain ⟨_, hlen, hat⟩ := World.cells?_some hc
  obtain ⟨xs, n, _, _, _, hxl, hf⟩ := DataW.trod_struct hu h
  rw [hcell] at hlen hat
  have get : ∀ (j : Nat) (f : Field), fs[j]? = some f → j < 2 → ∃ v y, W.cell? (a.add j) = some v ∧ DataW.trod enc Try.prog W base spare held n f.type [v] = some y := fun j f hj hj5 => by
    obtain ⟨ho, hk⟩ := hone_of hone j f hj
    obtain ⟨v, hv, hv1⟩ := one_of (n := 2) hlen hj5
    have := hf j f hj
    rw [ho, hk, hv1] at this
    refine ⟨v, xs[j]'(by omega), (hat j hj5).trans hv, ?_⟩
    rw [this, List.getElem?_eq_getElem (by omega)]
  obtain ⟨v0, y0, c0, r0⟩ := get 0 f0 h0 (by omega)
  obtain ⟨v1, y1, c1, r1⟩ := get 1 f1 h1 (by omega)
  rw [t0] at r0
  rw [t1] at r1
  obtain ⟨p, e0, _, wp⟩ := DataW.trod_int Try.underlying3 r0
  obtain ⟨q, e1, _, wq⟩ := DataW.trod_int Try.underlying3 r1
  simp only [List.cons.injEq, and_true] at e0 e1
  subst e0 e1
  have hs : a.spot = none := by
    rw [add_zero'] at c0
    exact World.cell?_spot c0
  obtain ⟨bl, o, sp⟩ := a
  simp only at hs
  subst hs
  have ad : ∀ j, (⟨bl, o, none⟩ : Addr).add j = ⟨bl, o + j, none⟩ := fun j => by unfold Addr.add; split <;> simp_all
  rw [ad] at c0 c1
  exact ⟨⟨p, q⟩, rfl, c0, c1⟩
/-- What the walk is told of a slice of runs. -/
def IsActs (W : World) (A : Option Addr) (len : Nat) : Prop := len ≤ 9223372036854775807 ∧ ∃ l : List M.R, len = l.length ∧ Runs W A l
theorem acts_open {fuel : Nat} {cs : List Value} {x : DataW H × List MemPlace} (h : DataW.trod enc Try.prog W base spare held fuel 22 cs = some x) :
    ∃ A len cap, cs = [.slice A len cap] ∧ IsActs W A len := by
  rcases open_slice Try.underlying22 h with ⟨rfl, _⟩ | ⟨a, len, cap, m, n, D, Pl, rfl, _, hl, hmx, hm, _, hi⟩
  · exact ⟨none, 0, 0, rfl, by omega, [], rfl, fun h => absurd h (by simp)⟩
  · have hlm : len ≤ m := by rw [hm]; split <;> omega
    have h5 : Try.prog.cellsOf 36 = 2 := by kernel_rfl
    refine ⟨some a, len, cap, rfl, by unfold maxLen at hmx; omega, ?_⟩
    obtain ⟨l, hl1, hl2⟩ := list_of (Q := fun i y => (a.add (i * 2)).spot = none ∧ IsRun W (a.add (i * 2)).block (a.add (i * 2)).off y) len (fun i hi' => by
      obtain ⟨cs', hc, ht⟩ := hi i (by omega)
      obtain ⟨y, hy⟩ := run_open hc ht
      rw [h5] at hy
      exact ⟨y, hy⟩)
    refine ⟨l, hl1.symm, fun hpos => ?_⟩
    have hs : a.spot = none := by
      have := (hl2 0 hpos).1
      rw [Nat.zero_mul, add_zero'] at this
      exact this
    obtain ⟨bl, o, sp⟩ := a
    simp only at hs
    subst hs
    have ad : ∀ j, (⟨bl, o, none⟩ : Addr).add j = ⟨bl, o + j, none⟩ := fun j => by unfold Addr.add; split <;> simp_all
    refine ⟨bl, o, rfl, fun i hi' => ?_⟩
    have := (hl2 i hi').2
    rw [ad] at this
    exact this
end
end Go.Proofs.Ytbmibggjdilhkaa
