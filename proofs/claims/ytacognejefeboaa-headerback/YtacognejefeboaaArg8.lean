/-
  Arguments that are headers, and slices of them.
-/
import Derived.Test.YtacognejefeboaaA8
import Derived.Deep.Slices
import Derived.Deep.Fields
import Derived.Lib.SmallJoins
namespace Go.Proofs.Ytacognejefeboaa
open Go.ChangeShapes Go.WideShapes Go.ChangeAt Go.RowKit Go.Deep
set_option linter.unusedVariables false
set_option maxRecDepth 20000

structure HeadD where
  p : Int
  k : Int
  o : Nat
  n : Nat
structure HeadOk (x : HeadD) : Prop where
  p : -9223372036854775808 ≤ x.p ∧ x.p ≤ 9223372036854775807
  k : -9223372036854775808 ≤ x.k ∧ x.k ≤ 9223372036854775807
  o : x.o < 18446744073709551616
  n : x.n < 18446744073709551616
/-- A header's four cells. -/
structure IsHead (w : World) (bl o : Nat) (x : HeadD) : Prop where
  c0 : w.cell? ⟨bl, o, none⟩ = some (.int .i64 x.p)
  c1 : w.cell? ⟨bl, o + 1, none⟩ = some (.int .i64 x.k)
  c2 : w.cell? ⟨bl, o + 2, none⟩ = some (.int .u64 (x.o : Int))
  c3 : w.cell? ⟨bl, o + 3, none⟩ = some (.int .u64 (x.n : Int))
  ok : HeadOk x
def Heads (w : World) (A : Option Addr) (l : List HeadD) : Prop := 0 < l.length → ∃ bl o, A = some ⟨bl, o, none⟩ ∧ ∀ i (h : i < l.length), IsHead w bl (o + i * 4) l[i]
theorem IsHead.below {w w' : World} {bl o : Nat} {x : HeadD} (h : IsHead w bl o x) (hb : Below w.heap.size w w') : IsHead w' bl o x :=
  ⟨(hb.cell (lt_of_cell h.c0)).trans h.c0, (hb.cell (lt_of_cell h.c1)).trans h.c1, (hb.cell (lt_of_cell h.c2)).trans h.c2, (hb.cell (lt_of_cell h.c3)).trans h.c3, h.ok⟩
theorem Heads.below {w w' : World} {A : Option Addr} {l : List HeadD} (h : Heads w A l) (hb : Below w.heap.size w w') : Heads w' A l := fun hl => by
  obtain ⟨bl, o, e, hc⟩ := h hl
  exact ⟨bl, o, e, fun i hi => (hc i hi).below hb⟩

section
variable {H : Type} {enc : TypeId × Value → H} {W : World} {base : Nat} {spare : Nat → Bool} {held : Bool}
theorem list_of {α : Type} {Q : Nat → α → Prop} (n : Nat) (h : ∀ i, i < n → ∃ x, Q i x) : ∃ l : List α, l.length = n ∧ ∀ i (hi : i < l.length), Q i l[i] := by
  induction n with
  | zero => exact ⟨[], rfl, fun i hi => absurd hi (by simp)⟩
  | succ n ih =>
    obtain ⟨l, h1, h2⟩ := ih (fun i hi => h i (by omega))
    obtain ⟨x, hx⟩ := h n (by omega)
    refine ⟨l ++ [x], by simp [h1], fun i hi => ?_⟩
    rcases Nat.lt_or_ge i l.length with hl | hl
    · rw [List.getElem_append_left hl]
      exact h2 i hl
    · have e : i = n := by simp at hi; omega
      subst e
      rw [List.getElem_append_right (by omega)]
      simpa using hx
theorem one_of {cs : List Value} {j n : Nat} (hn : cs.length = n) (hj : j < n) : ∃ v, cs[j]? = some v ∧ (cs.drop j).take 1 = [v] := by
  have h1 : j < cs.length := by omega
  refine ⟨cs[j], List.getElem?_eq_getElem h1, ?_⟩
  rw [List.drop_eq_getElem_cons h1]
  rfl
theorem four_of {cs : List Value} (h : cs.length = 4) : ∃ a b c d, cs = [a, b, c, d] := by
  match cs, h with
  | [a, b, c, d], _ => exact ⟨a, b, c, d, rfl⟩
theorem head_fs : ∃ fs : Array Field, Try.prog.underlying 33 = some (.struct fs) ∧ oneCellFields Try.prog fs = true ∧ fs.size = 4 ∧ Try.prog.cellsOf 33 = 4 ∧
    (∃ f, fs[0]? = some f ∧ f.type = 3) ∧ (∃ f, fs[1]? = some f ∧ f.type = 3) ∧ (∃ f, fs[2]? = some f ∧ f.type = 31) ∧ ∃ f, fs[3]? = some f ∧ f.type = 31 :=
  ⟨_, Try.underlying33, by kernel_rfl, by rfl, by kernel_rfl, ⟨_, rfl, rfl⟩, ⟨_, rfl, rfl⟩, ⟨_, rfl, rfl⟩, ⟨_, rfl, rfl⟩⟩
/-- Four cells that were read as a header. -/
theorem head_cells {fuel : Nat} {cs : List Value} {x : DataW H × List MemPlace} (h : DataW.trod enc Try.prog W base spare held fuel 33 cs = some x) :
    ∃ y : HeadD, HeadOk y ∧ cs = [.int .i64 y.p, .int .i64 y.k, .int .u64 (y.o : Int), .int .u64 (y.n : Int)] := by
  obtain ⟨fs, hu, hone, hsz, hcell, ⟨f0, h0, t0⟩, ⟨f1, h1, t1⟩, ⟨f2, h2, t2⟩, ⟨f3, h3, t3⟩⟩ := head_fs
  obtain ⟨xs, n, _, _, hlen, hxl, hf⟩ := DataW.trod_struct hu h
  rw [hcell] at hlen
  have get : ∀ (j : Nat) (f : Field), fs[j]? = some f → j < 4 → ∃ v y, cs[j]? = some v ∧ DataW.trod enc Try.prog W base spare held n f.type [v] = some y := fun j f hj hj4 => by
    obtain ⟨ho, hk⟩ := hone_of hone j f hj
    obtain ⟨v, hv, hv1⟩ := one_of (n := 4) hlen hj4
    have := hf j f hj
    rw [ho, hk, hv1] at this
    refine ⟨v, xs[j]'(by omega), hv, ?_⟩
    rw [this, List.getElem?_eq_getElem (by omega)]
  obtain ⟨v0, y0, c0, r0⟩ := get 0 f0 h0 (by omega)
  obtain ⟨v1, y1, c1, r1⟩ := get 1 f1 h1 (by omega)
  obtain ⟨v2, y2, c2, r2⟩ := get 2 f2 h2 (by omega)
  obtain ⟨v3, y3, c3, r3⟩ := get 3 f3 h3 (by omega)
  rw [t0] at r0
  rw [t1] at r1
  rw [t2] at r2
  rw [t3] at r3
  obtain ⟨p, e0, _, wp⟩ := DataW.trod_int Try.underlying3 r0
  obtain ⟨k, e1, _, wk⟩ := DataW.trod_int Try.underlying3 r1
  obtain ⟨o, e2, _, wo⟩ := DataW.trod_int Try.underlying31 r2
  obtain ⟨m, e3, _, wm⟩ := DataW.trod_int Try.underlying31 r3
  simp only [List.cons.injEq, and_true] at e0 e1 e2 e3
  subst e0 e1 e2 e3
  obtain ⟨o, ho, rfl⟩ := u64_nat wo
  obtain ⟨m, hm, rfl⟩ := u64_nat wm
  refine ⟨⟨p, k, o, m⟩, ⟨i64_range wp, i64_range wk, ho, hm⟩, ?_⟩
  obtain ⟨d0, d1, d2, d3, rfl⟩ := four_of hlen
  clear get hf hxl hlen wp wk wo wm r0 r1 r2 r3
  simp only [List.getElem?_cons_zero, List.getElem?_cons_succ, Option.some.injEq] at c0 c1 c2 c3
  rw [c0, c1, c2, c3]
theorem head_open {r : Reach} {b0 : Nat} {v : Value} {d : DataW H} {ps : List MemPlace} (hok : Value.okWide Try.prog W r b0 33 v) (h : DataW.Trod enc Try.prog W base spare held 33 v d ps) :
    ∃ y : HeadD, HeadOk y ∧ v = hv y.p y.k y.o y.n := by
  obtain ⟨cs, rfl, hsz⟩ := okWide_struct Try.underlying33 hok
  obtain ⟨fuel, hf⟩ := h
  obtain ⟨y, hy, e⟩ := head_cells hf
  refine ⟨y, hy, ?_⟩
  have : cs = #[.int .i64 y.p, .int .i64 y.k, .int .u64 (y.o : Int), .int .u64 (y.n : Int)] := Array.ext' e
  rw [this]
/-- What the walk is told of a slice of headers. -/
def IsHeads (W : World) (A : Option Addr) (len : Nat) : Prop := len ≤ 9223372036854775807 ∧ ∃ l : List HeadD, len = l.length ∧ Heads W A l
theorem heads_open {fuel : Nat} {cs : List Value} {x : DataW H × List MemPlace} (h : DataW.trod enc Try.prog W base spare held fuel 55 cs = some x) :
    ∃ A len cap, cs = [.slice A len cap] ∧ IsHeads W A len := by
  rcases open_slice Try.underlying55 h with ⟨rfl, _⟩ | ⟨a, len, cap, m, n, D, Pl, rfl, _, hl, hmx, hm, _, hi⟩
  · exact ⟨none, 0, 0, rfl, by omega, [], rfl, fun h => absurd h (by simp)⟩
  · have hlm : len ≤ m := by rw [hm]; split <;> omega
    have h4 : Try.prog.cellsOf 33 = 4 := by kernel_rfl
    refine ⟨some a, len, cap, rfl, by unfold maxLen at hmx; omega, ?_⟩
    obtain ⟨l, hl1, hl2⟩ := list_of (Q := fun i y => (a.add (i * 4)).spot = none ∧ IsHead W (a.add (i * 4)).block (a.add (i * 4)).off y) len (fun i hi' => by
      obtain ⟨cs', hc, ht⟩ := hi i (by omega)
      rw [h4] at hc
      obtain ⟨y, hy, rfl⟩ := head_cells ht
      obtain ⟨_, _, hat⟩ := World.cells?_some hc
      have c0 := hat 0 (by omega)
      have c1 := hat 1 (by omega)
      have c2 := hat 2 (by omega)
      have c3 := hat 3 (by omega)
      have hs : (a.add (i * 4)).spot = none := by
        rw [add_zero'] at c0
        exact World.cell?_spot c0
      refine ⟨y, hs, ?_⟩
      generalize a.add (i * 4) = b at *
      obtain ⟨bl, o, sp⟩ := b
      simp only at hs
      subst hs
      have ad : ∀ j, (⟨bl, o, none⟩ : Addr).add j = ⟨bl, o + j, none⟩ := fun j => by unfold Addr.add; split <;> simp_all
      rw [ad] at c0 c1 c2 c3
      exact ⟨c0, c1, c2, c3, hy⟩)
    refine ⟨l, hl1.symm, fun hpos => ?_⟩
    have hs : a.spot = none := by
      have := (hl2 0 hpos).1
      rw [Nat.zero_mul, add_zero'] at this
      exact this
    obtain ⟨bl, o, sp⟩ := a
    simp only at hs
    subst hs
    have ad : ∀ j, (⟨bl, o, none⟩ : Addr).add j = ⟨bl, o + j, none⟩ := fun j => by unfold Addr.add; split <;> simp_all
    refine ⟨bl, o, rfl, fun i hi' => ?_⟩
    have := (hl2 i hi').2
    rw [ad] at this
    exact this
end
end Go.Proofs.Ytacognejefeboaa
