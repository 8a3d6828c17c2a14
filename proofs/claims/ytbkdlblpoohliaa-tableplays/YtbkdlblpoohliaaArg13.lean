/-
  Arguments of layer 13: slices of acts.
-/
import Derived.Test.YtbkdlblpoohliaaW13
import Derived.ShutString
import Derived.OpenShut
import Derived.ShutString
import Derived.ChangeOld
import Derived.Deep.Slices
import Derived.Deep.Fields
namespace Go.Proofs.Ytbkdlblpoohliaa
open Go.ChangeShapes Go.WideShapes Go.ChangeAt Go.RowKit Go.Deep
set_option linter.unusedVariables false
set_option maxRecDepth 20000

section
variable {H : Type} {enc : TypeId × Value → H} {W : World} {base : Nat} {spare : Nat → Bool} {held : Bool}
theorem list_of {α : Type} {Q : Nat → α → Prop} (n : Nat) (h : ∀ i, i < n → ∃ x, Q i x) : ∃ l : List α, l.length = n ∧ ∀ i (hi : i < l.length), Q i l[i] := by
  induction n with
  | zero => exact ⟨[], rfl, fun i hi => absurd hi (by simp)⟩
  | succ n ih =>
    obtain ⟨l, h1, h2⟩ := ih (fun i hi => h i (by omega))
    obtain ⟨x, hx⟩ := h n (by omega)
    refine ⟨l ++ [x], by simp [h1], fun i hi => ?_⟩
    rcases Nat.lt_or_ge i l.length with hl | hl
    · rw [List.getElem_append_left hl]
      exact h2 i hl
    · have e : i = n := by simp at hi; omega
      subst e
      rw [List.getElem_append_right (by omega)]
      simpa using hx
theorem one_of {cs : List Value} {j n : Nat} (hn : cs.length = n) (hj : j < n) : ∃ v, cs[j]? = some v ∧ (cs.drop j).take 1 = [v] := by
  have h1 : j < cs.length := by omega
  refine ⟨cs[j], List.getElem?_eq_getElem h1, ?_⟩
  rw [List.drop_eq_getElem_cons h1]
  rfl
theorem act_fs : ∃ fs : Array Field, Try.prog.underlying 33 = some (.struct fs) ∧ oneCellFields Try.prog fs = true ∧ fs.size = 4 ∧ Try.prog.cellsOf 33 = 4 ∧
    (∃ f, fs[0]? = some f ∧ f.type = 5) ∧ (∃ f, fs[1]? = some f ∧ f.type = 5) ∧ (∃ f, fs[2]? = some f ∧ f.type = 31) ∧ ∃ f, fs[3]? = some f ∧ f.type = 3 :=
  ⟨_, Try.underlying33, by kernel_rfl, by rfl, by kernel_rfl, ⟨_, rfl, rfl⟩, ⟨_, rfl, rfl⟩, ⟨_, rfl, rfl⟩, ⟨_, rfl, rfl⟩⟩
/-- An act: what is done, by which handle. -/
structure Act13 where
  d : Nat
  i : Nat
  h : Nat
  v : Int
structure IsAct (w : World) (bl o : Nat) (x : Act13) : Prop where
  c0 : w.cell? ⟨bl, o, none⟩ = some (.int .u8 (x.d : Int))
  c1 : w.cell? ⟨bl, o + 1, none⟩ = some (.int .u8 (x.i : Int))
  c2 : w.cell? ⟨bl, o + 2, none⟩ = some (.int .u64 (x.h : Int))
  c3 : w.cell? ⟨bl, o + 3, none⟩ = some (.int .i64 x.v)
  d8 : x.d < 256
  i8 : x.i < 256
  h64 : x.h < 18446744073709551616
  vr : -9223372036854775808 ≤ x.v ∧ x.v ≤ 9223372036854775807
theorem act_open {fuel : Nat} {cs : List Value} {x : DataW H × List MemPlace} {a : Addr} (hc : W.cells? base a (Try.prog.cellsOf 33) = some cs) (h : DataW.trod enc Try.prog W base spare held fuel 33 cs = some x) :
    ∃ y : Act13, a.spot = none ∧ IsAct W a.block a.off y := by
  obtain ⟨fs, hu, hone, hsz, hcell, ⟨f0, h0, t0⟩, ⟨f1, h1, t1⟩, ⟨f2, h2, t2⟩, ⟨f3, h3, t3⟩⟩ := act_fs
  obtain ⟨_, hlen, hat⟩ := World.cells?_some hc
  obtain ⟨xs, n, _, _, _, hxl, hf⟩ := DataW.trod_struct hu h
  rw [hcell] at hlen hat
  have get : ∀ (j : Nat) (f : Field), fs[j]? = some f → j < 4 → ∃ v y, W.cell? (a.add j) = some v ∧ DataW.trod enc Try.prog W base spare held n f.type [v] = some y := fun j f hj hj5 => by
    obtain ⟨ho, hk⟩ := hone_of hone j f hj
    obtain ⟨v, hv, hv1⟩ := one_of (n := 4) hlen hj5
    have := hf j f hj
    rw [ho, hk, hv1] at this
    refine ⟨v, xs[j]'(by omega), (hat j hj5).trans hv, ?_⟩
    rw [this, List.getElem?_eq_getElem (by omega)]
  obtain ⟨v0, y0, c0, r0⟩ := get 0 f0 h0 (by omega)
  obtain ⟨v1, y1, c1, r1⟩ := get 1 f1 h1 (by omega)
  obtain ⟨v2, y2, c2, r2⟩ := get 2 f2 h2 (by omega)
  obtain ⟨v3, y3, c3, r3⟩ := get 3 f3 h3 (by omega)
  rw [t0] at r0
  rw [t1] at r1
  rw [t2] at r2
  rw [t3] at r3
  obtain ⟨d, e0, _, wd⟩ := DataW.trod_int Try.underlying5 r0
  obtain ⟨i, e1, _, wi⟩ := DataW.trod_int Try.underlying5 r1
  obtain ⟨u, e2, _, wu⟩ := DataW.trod_int Try.underlying31 r2
  obtain ⟨p, e3, _, wp⟩ := DataW.trod_int Try.underlying3 r3
  simp only [List.cons.injEq, and_true] at e0 e1 e2 e3
  subst e0 e1 e2 e3
  obtain ⟨d, hd, rfl⟩ := u8_nat wd
  obtain ⟨i, hi8, rfl⟩ := u8_nat wi
  obtain ⟨u, hu8, rfl⟩ := u64_nat wu
  have hs : a.spot = none := by
    rw [add_zero'] at c0
    exact World.cell?_spot c0
  obtain ⟨bl, o, sp⟩ := a
  simp only at hs
  subst hs
  have ad : ∀ j, (⟨bl, o, none⟩ : Addr).add j = ⟨bl, o + j, none⟩ := fun j => by unfold Addr.add; split <;> simp_all
  rw [ad] at c0 c1 c2 c3
  exact ⟨⟨d, i, u, p⟩, rfl, c0, c1, c2, c3, hd, hi8, hu8, i64_range wp⟩
/-- Acts at a slice's address. -/
def Acts (W : World) (A : Option Addr) (l : List Act13) : Prop := 0 < l.length → ∃ bl o, A = some ⟨bl, o, none⟩ ∧ ∀ i (h : i < l.length), IsAct W bl (o + i * 4) l[i]
/-- What the walk is told of a slice of acts. -/
def IsActs (W : World) (A : Option Addr) (len : Nat) : Prop := len ≤ 9223372036854775807 ∧ ∃ l : List Act13, len = l.length ∧ Acts W A l
theorem acts_open {fuel : Nat} {cs : List Value} {x : DataW H × List MemPlace} (h : DataW.trod enc Try.prog W base spare held fuel 22 cs = some x) :
    ∃ A len cap, cs = [.slice A len cap] ∧ IsActs W A len := by
  rcases open_slice Try.underlying22 h with ⟨rfl, _⟩ | ⟨a, len, cap, m, n, D, Pl, rfl, _, hl, hmx, hm, _, hi⟩
  · exact ⟨none, 0, 0, rfl, by omega, [], rfl, fun h => absurd h (by simp)⟩
  · have hlm : len ≤ m := by rw [hm]; split <;> omega
    have h5 : Try.prog.cellsOf 33 = 4 := by kernel_rfl
    refine ⟨some a, len, cap, rfl, by unfold maxLen at hmx; omega, ?_⟩
    obtain ⟨l, hl1, hl2⟩ := list_of (Q := fun i y => (a.add (i * 4)).spot = none ∧ IsAct W (a.add (i * 4)).block (a.add (i * 4)).off y) len (fun i hi' => by
      obtain ⟨cs', hc, ht⟩ := hi i (by omega)
      obtain ⟨y, hy⟩ := act_open hc ht
      rw [h5] at hy
      exact ⟨y, hy⟩)
    refine ⟨l, hl1.symm, fun hpos => ?_⟩
    have hs : a.spot = none := by
      have := (hl2 0 hpos).1
      rw [Nat.zero_mul, add_zero'] at this
      exact this
    obtain ⟨bl, o, sp⟩ := a
    simp only at hs
    subst hs
    have ad : ∀ j, (⟨bl, o, none⟩ : Addr).add j = ⟨bl, o + j, none⟩ := fun j => by unfold Addr.add; split <;> simp_all
    refine ⟨bl, o, rfl, fun i hi' => ?_⟩
    have := (hl2 i hi').2
    rw [ad] at this
    exact this
theorem IsAct.keep {w w' : World} {bl o : Nat} {x : Act13} (h : IsAct w bl o x) (hb : Below w.heap.size w w') : IsAct w' bl o x :=
  ⟨(hb.cell (lt_of_cell h.c0)).trans h.c0, (hb.cell (lt_of_cell h.c1)).trans h.c1, (hb.cell (lt_of_cell h.c2)).trans h.c2, (hb.cell (lt_of_cell h.c3)).trans h.c3, h.d8, h.i8, h.h64, h.vr⟩
end
end Go.Proofs.Ytbkdlblpoohliaa
