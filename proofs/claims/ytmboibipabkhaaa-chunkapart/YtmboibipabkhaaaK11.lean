/-
  Lists of one's own beside a Store.
-/
import Derived.Test.YtmboibipabkhaaaK10
import Derived.Deep.Slices
import Derived.Deep.Fields
namespace Go.Proofs.Ytmboibipabkhaaa
open Go.ChangeShapes Go.WideShapes Go.ChangeAt Go.RowKit Go.Deep
set_option linter.unusedVariables false
set_option maxRecDepth 20000

/-- The block in which a list lies. -/
abbrev rowD (A : Option Addr) : Nat → Prop := fun x => ∃ ad, A = some ad ∧ ad.block = x
theorem own_D {A : Option Addr} {t c x : Nat} (h : (Value.slice A t c).ownBlock = some x) : rowD A x := by
  cases A with
  | none => simp [Value.ownBlock] at h
  | some ad => simp [Value.ownBlock] at h; exact ⟨ad, rfl, h⟩
def ints10 (ps : List Int) : List Value := ps.map fun p => .int .i64 p
theorem ints10_one (ps : List Int) : ∀ u ∈ ints10 ps, u.oneCell' = true := fun u hu => by
  obtain ⟨p, _, rfl⟩ := List.mem_map.1 hu
  rfl
theorem ints10_length (ps : List Int) : (ints10 ps).length = ps.length := by simp [ints10]
theorem infoI : ∃ i, Try.prog.info? 3 = some i ∧ i.zero = some (.int .i64 0) ∧ i.size = 1 ∧ i.bytes = 8 := ⟨_, by rfl, by rfl, by rfl, by rfl⟩
theorem num_cell10 (w : World) (p : Int) : ∀ j u, (ints10 [p])[j]? = some u → (w.alloc (.cells #[.int .i64 p] 3)).cell? ((⟨w.heap.size, 0, none⟩ : Addr).add j) = some u := fun j u hu => by
  rw [Addr.add_lit, Nat.zero_add, World.cell?_alloc_mark]
  simpa [ints10] using hu
/-- A list of one's own, beside a Store. -/
structure Lst (w : World) (e : TypeId) (z B : Nat) (A : Option Addr) (t c : Nat) (xs : List Value) (Q : Nat → Prop) (s : Nat) : Prop where
  row : w.ownsRow B e z (.slice A t c) t xs
  off : ∀ x, rowD A x → ¬ Q x ∧ x ≠ s
section
variable {w w' : World} {e : TypeId} {z B t c s : Nat} {A : Option Addr} {xs : List Value} {Q O : Nat → Prop}
theorem row_low (h : w.ownsRow B e z (.slice A t c) t xs) {x : Nat} (hx : rowD A x) : B ≤ x ∧ x < w.heap.size := by
  obtain ⟨ad, rfl, rfl⟩ := hx
  rcases h.2 with ⟨h, _⟩ | ⟨g, cap, cur, e1, h1, h2, _⟩
  · cases h
  · cases e1
    exact ⟨h1, (Array.getElem?_eq_some_iff.1 h2).1⟩
theorem row_cap (h : w.ownsRow B e z (.slice A t c) t xs) : t ≤ c ∨ t = 0 := by
  rcases h.2 with ⟨h, h0⟩ | ⟨g, cap, cur, e1, h1, h2, h3, _⟩
  · exact .inr h0
  · cases e1
    exact .inl h3
theorem row_kept (h : w.ownsRow B e z (.slice A t c) t xs) (k : Kept w w' O) (hO : ∀ x, rowD A x → ¬ O x) : w'.ownsRow B e z (.slice A t c) t xs := by
  refine ⟨h.1, ?_⟩
  rcases h.2 with h1 | ⟨g, cap, cur, h1, h2, h3, h4⟩
  · exact .inl h1
  · refine .inr ⟨g, cap, cur, h1, h2, (k.block g (Array.getElem?_eq_some_iff.1 h3).1 (hO g ?_)).trans h3, h4⟩
    cases h1
    exact ⟨_, rfl, rfl⟩
theorem row_some (h : w.ownsRow B e z (.slice A t c) t xs) (ht : 0 < t) : ∃ g, A = some ⟨g, 0, none⟩ := by
  rcases h.2 with ⟨_, h0⟩ | ⟨g, cap, cur, e1, _⟩
  · omega
  · cases e1
    exact ⟨g, rfl⟩
theorem Lst.none' (w : World) (e : TypeId) (z B : Nat) (Q : Nat → Prop) (s : Nat) : Lst w e z B none 0 0 [] Q s := ⟨⟨by simp, .inl ⟨rfl, rfl⟩⟩, fun x hx => by obtain ⟨ad, h, _⟩ := hx; cases h⟩
theorem Lst.call (h : Lst w e z B A t c xs Q s) (hk : Kept w w' Q) : Lst w' e z B A t c xs (Wid Q w w') s :=
  ⟨row_kept h.row hk (fun x hx => (h.off x hx).1), fun x hx => ⟨fun e => e.elim (h.off x hx).1 (fun e => by have := (row_low h.row hx).2; omega), (h.off x hx).2⟩⟩
theorem Lst.below (h : Lst w e z B A t c xs Q s) (hb : Below w.heap.size w w') : Lst w' e z B A t c xs Q s :=
  ⟨row_kept h.row (Kept.of_below hb (fun _ => False)) (fun _ _ e => e), h.off⟩
theorem Lst.cell {ps : List Int} (h : Lst w 3 1 B A t c (ints10 ps) Q s) {j : Nat} (hj : j < ps.length) : ∃ g, A = some ⟨g, 0, none⟩ ∧ w.cell? ⟨g, j, none⟩ = some (.int .i64 ps[j]) := by
  have ht : t = ps.length := by have := h.row.1; rw [ints10_length] at this; omega
  obtain ⟨g, rfl⟩ := row_some h.row (by omega)
  refine ⟨g, rfl, ?_⟩
  have := h.row.cells (g := g) rfl j (.int .i64 ps[j]) (by simp [ints10, hj])
  rwa [Addr.add_lit, Nat.zero_add] at this
end
section
variable {w0 w w' : World} {s a b c P : Nat} {Z : St} {Q D D' O : Nat → Prop} {k : Nat}
/-- Blocks are written that are not the Store's. -/
theorem Chk.other (h : Chk D w0 w s a b c P Z Q k) (hk : Kept w w' O) (hO : ∀ x, O x → ¬ Q x ∧ x ≠ s ∧ w0.heap.size ≤ x ∧ (Z.l ≠ [] → Apt w a x)) (hD : ∀ x, D' x → D x ∨ w.heap.size ≤ x) (hD' : ∀ x, D' x → x < w'.heap.size) : Chk D' w0 w' s a b c P Z Q k := by
  have H := h.st
  obtain ⟨U, h1, h2, h3, h4, h5⟩ := H.sp
  have hb : Below w0.heap.size w0 w' := H.bel.trans (hk.below H.bel.size (fun x hx => (hO x hx).2.2.1))
  have hs := H.al.besides hk (fun e => (hO a e).1 H.qa) (fun hl x hx => (hO x hx).2.2.2 hl) hb
  have hc : ¬ O c := fun e => (hO c e).1 H.qc
  refine ⟨⟨hs.1, ⟨U, h1.other hk (fun x hx e => (hO x e).1 (h2 x hx)) hb, h2, h3, h4, fun hl x hx => (h5 hl x hx).same hs.2⟩, H.kp.besides hk hc hb, H.qa, H.qc, H.ac, fun hl => (H.ap hl).same hs.2, fun x hx => Nat.lt_of_lt_of_le (H.lt x hx) hk.size, H.old, fun hl x hx => ?_, hD'⟩, h.bx.kept hk (fun e => (hO s e).2.1 rfl), h.no⟩
  rcases hD x hx with hd | hd
  · exact (H.rs hl x hd).same hs.2
  · exact (Apt.new H.al.has hl hd).same hs.2
/-- Something is appended to one's own list. -/
theorem Chk.app {e : TypeId} {z t c' m g1 c1 : Nat} {A : Option Addr} {xs ys : List Value} (h : Chk (rowD A) w0 w s a b c P Z Q k) (hl : Lst w e z w0.heap.size A t c' xs Q s) (hrow : w'.ownsRow w0.heap.size e z (.slice (some ⟨g1, 0, none⟩) (t + m) c1) (t + m) (xs ++ ys))
    (hgr : w.grownBy w' (Value.slice A t c').ownBlock) (hat : (Value.slice A t c').ownBlock = some g1 ∨ g1 = w.heap.size) (hlt : g1 < w'.heap.size) :
    Chk (rowD (some ⟨g1, 0, none⟩)) w0 w' s a b c P Z Q k ∧ Lst w' e z w0.heap.size (some ⟨g1, 0, none⟩) (t + m) c1 (xs ++ ys) Q s := by
  have hk : Kept w w' (rowD A) := (Kept.refl w _).grown hgr (fun x e _ => own_D e)
  have hd : rowD A g1 ∨ g1 = w.heap.size := hat.imp own_D id
  refine ⟨h.other hk (fun x hx => ⟨(hl.off x hx).1, (hl.off x hx).2, (row_low hl.row hx).1, fun e => h.st.rs e x hx⟩) (fun x hx => ?_) (fun x hx => ?_), hrow, fun x hx => ?_⟩
  · obtain ⟨ad, e, rfl⟩ := hx
    cases e
    exact hd.imp id (fun e => Nat.le_of_eq e.symm)
  · obtain ⟨ad, e, rfl⟩ := hx
    cases e
    exact hlt
  · obtain ⟨ad, e, rfl⟩ := hx
    cases e
    show ¬ Q g1 ∧ g1 ≠ s
    rcases hd with hd | hd
    · exact hl.off g1 hd
    · exact ⟨fun q => by have := h.st.lt _ q; omega, fun e => by have := h.bx.lt; omega⟩
theorem Chk.noD (h : Chk D w0 w s a b c P Z Q k) (hD : ∀ x, ¬ D' x) : Chk D' w0 w s a b c P Z Q k :=
  ⟨⟨h.st.al, h.st.sp, h.st.kp, h.st.qa, h.st.qc, h.st.ac, h.st.ap, h.st.lt, h.st.old, fun _ x hx => absurd hx (hD x), fun x hx => absurd hx (hD x)⟩, h.bx, h.no⟩
theorem rowD_none : ∀ x, ¬ rowD none x := fun x ⟨_, e, _⟩ => by cases e
end
/-- A number is appended. -/
theorem Chk.app1 {w0 W w' : World} {s a b c P k t c' g1 c1 : Nat} {Z : St} {Q : Nat → Prop} {A : Option Addr} {ps : List Int} {p : Int} (h : Chk (rowD A) w0 W s a b c P Z Q k) (hl : Lst W 3 1 w0.heap.size A t c' (ints10 ps) Q s) (hrow : w'.ownsRow w0.heap.size 3 1 (.slice (some ⟨g1, 0, none⟩) (t + 1) c1) (t + 1) (ints10 ps ++ ints10 [p]))
    (hgr : (W.alloc (.cells #[.int .i64 p] 3)).grownBy w' (Value.slice A t c').ownBlock) (hat : (Value.slice A t c').ownBlock = some g1 ∨ g1 = (W.alloc (.cells #[.int .i64 p] 3)).heap.size) (hlt : g1 < w'.heap.size) :
    Chk (rowD (some ⟨g1, 0, none⟩)) w0 w' s a b c P Z Q k ∧ Lst w' 3 1 w0.heap.size (some ⟨g1, 0, none⟩) (t + 1) c1 (ints10 (ps ++ [p])) Q s := by
  have hb : Below W.heap.size W (W.alloc (.cells #[.int .i64 p] 3)) := (Below.refl _ _).alloc (Nat.le_refl _) _
  have := (h.below hb).app (hl.below hb) hrow hgr hat hlt
  rw [show ints10 (ps ++ [p]) = ints10 ps ++ ints10 [p] by simp [ints10]]
  exact this
end Go.Proofs.Ytmboibipabkhaaa
/-
  Arguments of layer 10: slices of acts.
-/
namespace Go.Proofs.Ytmboibipabkhaaa
open Go.ChangeShapes Go.WideShapes Go.ChangeAt Go.RowKit Go.Deep
set_option linter.unusedVariables false
set_option maxRecDepth 20000

section
variable {H : Type} {enc : TypeId × Value → H} {W : World} {base : Nat} {spare : Nat → Bool} {held : Bool}
theorem list_of {α : Type} {Q : Nat → α → Prop} (n : Nat) (h : ∀ i, i < n → ∃ x, Q i x) : ∃ l : List α, l.length = n ∧ ∀ i (hi : i < l.length), Q i l[i] := by
  induction n with
  | zero => exact ⟨[], rfl, fun i hi => absurd hi (by simp)⟩
  | succ n ih =>
    obtain ⟨l, h1, h2⟩ := ih (fun i hi => h i (by omega))
    obtain ⟨x, hx⟩ := h n (by omega)
    refine ⟨l ++ [x], by simp [h1], fun i hi => ?_⟩
    rcases Nat.lt_or_ge i l.length with hl | hl
    · rw [List.getElem_append_left hl]
      exact h2 i hl
    · have e : i = n := by simp at hi; omega
      subst e
      rw [List.getElem_append_right (by omega)]
      simpa using hx
theorem one_of {cs : List Value} {j n : Nat} (hn : cs.length = n) (hj : j < n) : ∃ v, cs[j]? = some v ∧ (cs.drop j).take 1 = [v] := by
  have h1 : j < cs.length := by omega
  refine ⟨cs[j], List.getElem?_eq_getElem h1, ?_⟩
  rw [List.drop_eq_getElem_cons h1]
  rfl
theorem act_fs : ∃ fs : Array Field, Try.prog.underlying 32 = some (.struct fs) ∧ oneCellFields Try.prog fs = true ∧ fs.size = 5 ∧ Try.prog.cellsOf 32 = 5 ∧
    (∃ f, fs[0]? = some f ∧ f.type = 5) ∧ (∃ f, fs[1]? = some f ∧ f.type = 3) ∧ (∃ f, fs[2]? = some f ∧ f.type = 3) ∧ (∃ f, fs[3]? = some f ∧ f.type = 30) ∧ ∃ f, fs[4]? = some f ∧ f.type = 5 :=
  ⟨_, Try.underlying32, by kernel_rfl, by rfl, by kernel_rfl, ⟨_, rfl, rfl⟩, ⟨_, rfl, rfl⟩, ⟨_, rfl, rfl⟩, ⟨_, rfl, rfl⟩, ⟨_, rfl, rfl⟩⟩
/-- An act: a chunk that is got, put, or all are trimmed. -/
structure Act10 where
  d : Nat
  p : Int
  k : Int
  o : Nat
  i : Nat
structure IsAct (w : World) (bl o : Nat) (x : Act10) : Prop where
  c0 : w.cell? ⟨bl, o, none⟩ = some (.int .u8 (x.d : Int))
  c1 : w.cell? ⟨bl, o + 1, none⟩ = some (.int .i64 x.p)
  c2 : w.cell? ⟨bl, o + 2, none⟩ = some (.int .i64 x.k)
  c3 : w.cell? ⟨bl, o + 3, none⟩ = some (.int .u64 (x.o : Int))
  c4 : w.cell? ⟨bl, o + 4, none⟩ = some (.int .u8 (x.i : Int))
  d8 : x.d < 256
  pr : -9223372036854775808 ≤ x.p ∧ x.p ≤ 9223372036854775807
  kr : -9223372036854775808 ≤ x.k ∧ x.k ≤ 9223372036854775807
  or : x.o < 18446744073709551616
  ir : x.i < 256
theorem act_open {fuel : Nat} {cs : List Value} {x : DataW H × List MemPlace} {a : Addr} (hc : W.cells? base a (Try.prog.cellsOf 32) = some cs) (h : DataW.trod enc Try.prog W base spare held fuel 32 cs = some x) :
    ∃ y : Act10, a.spot = none ∧ IsAct W a.block a.off y := by
  obtain ⟨fs, hu, hone, hsz, hcell, ⟨f0, h0, t0⟩, ⟨f1, h1, t1⟩, ⟨f2, h2, t2⟩, ⟨f3, h3, t3⟩, ⟨f4, h4, t4⟩⟩ := act_fs
  obtain ⟨_, hlen, hat⟩ := World.cells?_some hc
  obtain ⟨xs, n, _, _, _, hxl, hf⟩ := DataW.trod_struct hu h
  rw [hcell] at hlen hat
  have get : ∀ (j : Nat) (f : Field), fs[j]? = some f → j < 5 → ∃ v y, W.cell? (a.add j) = some v ∧ DataW.trod enc Try.prog W base spare held n f.type [v] = some y := fun j f hj hj5 => by
    obtain ⟨ho, hk⟩ := hone_of hone j f hj
    obtain ⟨v, hv, hv1⟩ := one_of (n := 5) hlen hj5
    have := hf j f hj
    rw [ho, hk, hv1] at this
    refine ⟨v, xs[j]'(by omega), (hat j hj5).trans hv, ?_⟩
    rw [this, List.getElem?_eq_getElem (by omega)]
  obtain ⟨v0, y0, c0, r0⟩ := get 0 f0 h0 (by omega)
  obtain ⟨v1, y1, c1, r1⟩ := get 1 f1 h1 (by omega)
  obtain ⟨v2, y2, c2, r2⟩ := get 2 f2 h2 (by omega)
  obtain ⟨v3, y3, c3, r3⟩ := get 3 f3 h3 (by omega)
  obtain ⟨v4, y4, c4, r4⟩ := get 4 f4 h4 (by omega)
  rw [t0] at r0
  rw [t1] at r1
  rw [t2] at r2
  rw [t3] at r3
  rw [t4] at r4
  obtain ⟨d, e0, _, wd⟩ := DataW.trod_int Try.underlying5 r0
  obtain ⟨p, e1, _, wp⟩ := DataW.trod_int Try.underlying3 r1
  obtain ⟨q, e2, _, wq⟩ := DataW.trod_int Try.underlying3 r2
  obtain ⟨u, e3, _, wu⟩ := DataW.trod_int Try.underlying30 r3
  obtain ⟨i, e4, _, wi⟩ := DataW.trod_int Try.underlying5 r4
  simp only [List.cons.injEq, and_true] at e0 e1 e2 e3 e4
  subst e0 e1 e2 e3 e4
  obtain ⟨d, hd, rfl⟩ := u8_nat wd
  obtain ⟨u, hu8, rfl⟩ := u64_nat wu
  obtain ⟨i, hi8, rfl⟩ := u8_nat wi
  have hs : a.spot = none := by
    rw [add_zero'] at c0
    exact World.cell?_spot c0
  obtain ⟨bl, o, sp⟩ := a
  simp only at hs
  subst hs
  have ad : ∀ j, (⟨bl, o, none⟩ : Addr).add j = ⟨bl, o + j, none⟩ := fun j => by unfold Addr.add; split <;> simp_all
  rw [ad] at c0 c1 c2 c3 c4
  exact ⟨⟨d, p, q, u, i⟩, rfl, c0, c1, c2, c3, c4, hd, i64_range wp, i64_range wq, hu8, hi8⟩
/-- Acts at a slice's address. -/
def Acts (W : World) (A : Option Addr) (l : List Act10) : Prop := 0 < l.length → ∃ bl o, A = some ⟨bl, o, none⟩ ∧ ∀ i (h : i < l.length), IsAct W bl (o + i * 5) l[i]
/-- What the walk is told of a slice of acts. -/
def IsActs (W : World) (A : Option Addr) (len : Nat) : Prop := len ≤ 9223372036854775807 ∧ ∃ l : List Act10, len = l.length ∧ Acts W A l
theorem acts_open {fuel : Nat} {cs : List Value} {x : DataW H × List MemPlace} (h : DataW.trod enc Try.prog W base spare held fuel 22 cs = some x) :
    ∃ A len cap, cs = [.slice A len cap] ∧ IsActs W A len := by
  rcases open_slice Try.underlying22 h with ⟨rfl, _⟩ | ⟨a, len, cap, m, n, D, Pl, rfl, _, hl, hmx, hm, _, hi⟩
  · exact ⟨none, 0, 0, rfl, by omega, [], rfl, fun h => absurd h (by simp)⟩
  · have hlm : len ≤ m := by rw [hm]; split <;> omega
    have h5 : Try.prog.cellsOf 32 = 5 := by kernel_rfl
    refine ⟨some a, len, cap, rfl, by unfold maxLen at hmx; omega, ?_⟩
    obtain ⟨l, hl1, hl2⟩ := list_of (Q := fun i y => (a.add (i * 5)).spot = none ∧ IsAct W (a.add (i * 5)).block (a.add (i * 5)).off y) len (fun i hi' => by
      obtain ⟨cs', hc, ht⟩ := hi i (by omega)
      obtain ⟨y, hy⟩ := act_open hc ht
      rw [h5] at hy
      exact ⟨y, hy⟩)
    refine ⟨l, hl1.symm, fun hpos => ?_⟩
    have hs : a.spot = none := by
      have := (hl2 0 hpos).1
      rw [Nat.zero_mul, add_zero'] at this
      exact this
    obtain ⟨bl, o, sp⟩ := a
    simp only at hs
    subst hs
    have ad : ∀ j, (⟨bl, o, none⟩ : Addr).add j = ⟨bl, o + j, none⟩ := fun j => by unfold Addr.add; split <;> simp_all
    refine ⟨bl, o, rfl, fun i hi' => ?_⟩
    have := (hl2 i hi').2
    rw [ad] at this
    exact this
theorem IsAct.keep {w w' : World} {bl o : Nat} {x : Act10} (h : IsAct w bl o x) (hb : Below w.heap.size w w') : IsAct w' bl o x :=
  ⟨(hb.cell (lt_of_cell h.c0)).trans h.c0, (hb.cell (lt_of_cell h.c1)).trans h.c1, (hb.cell (lt_of_cell h.c2)).trans h.c2, (hb.cell (lt_of_cell h.c3)).trans h.c3, (hb.cell (lt_of_cell h.c4)).trans h.c4, h.d8, h.pr, h.kr, h.or, h.ir⟩
end
end Go.Proofs.Ytmboibipabkhaaa
/-
  Get of whatever is asked for.
-/
namespace Go.Proofs.Ytmboibipabkhaaa
open Go.ChangeShapes Go.WideShapes Go.ChangeAt Go.RowKit Go.Deep
set_option linter.unusedVariables false
set_option maxRecDepth 20000

def gtE (P : Nat) (Z : St) (pages kind : Int) : Int := if getB pages kind = true then (getF P Z pages).e else 1
def gtP (P : Nat) (Z : St) (pages kind : Int) : Int := if getB pages kind = true then getP P Z pages else 0
def gtN (P : Nat) (Z : St) (pages kind : Int) : Int := if getB pages kind = true then getN P Z pages else 0
def St.gt (P : Nat) (Z : St) (pages kind : Int) (o : Nat) : St := if getB pages kind = true then Z.get P pages kind o else Z
section
variable {w0 w : World} {s a b c P : Nat} {Z : St} {Q D : Nat → Prop} {k : Nat} {G : List M.R}
theorem cgetA_any (h : Chk D w0 w s a b c P Z Q k) (hk : k ≤ 80000) (hu : Z.u ≤ 900000000000) (hi : Inv P Z G) (pages kind : Int) (o : Nat) (ho : o < 18446744073709551616) :
    Calls Try.prog 13 #[.pointer (some ⟨s, 0, none⟩), .int .i64 pages, .int .i64 kind, .int .u64 (o : Int)] w fun e w' => e = .returned (.tuple #[.int .i64 (gtP P Z pages kind), .int .i64 (gtN P Z pages kind), .int .i64 (gtE P Z pages kind)]) ∧ Chk D w0 w' s a b c P (Z.gt P pages kind o) (Wid Q w w') (k + 30) ∧ Kept w w' Q := by
  unfold gtP gtN gtE St.gt
  by_cases hb : getB pages kind = true
  · obtain ⟨h1, h2, h3, h4⟩ := (getB_iff _ _).1 hb
    rw [if_pos hb, if_pos hb, if_pos hb, if_pos hb]
    exact cget_any h hk hu hi pages kind o h1 h2 h3 h4 ho
  · rw [if_neg hb, if_neg hb, if_neg hb, if_neg hb]
    refine (cget_bad w _ pages kind (o : Int) (by simpa using hb)).mono ?_
    rintro e w' ⟨rfl, hb'⟩
    have hk' := Kept.of_below hb' Q
    exact ⟨rfl, (h.next (h.st.below hb') hk' (fun x e => .inl e)).more (by omega), hk'⟩
theorem Inv.gt (h : Inv P Z G) (hP : P ≤ 1048576) (pages kind : Int) (o : Nat) (ho : o < 18446744073709551616) :
    (gtE P Z pages kind = 0 ∧ Inv P (Z.gt P pages kind o) (⟨gtP P Z pages kind, gtN P Z pages kind⟩ :: G) ∧ Stands (Z.gt P pages kind o).f (gtP P Z pages kind).toNat (gtN P Z pages kind).toNat kind.toNat o 0 ∧ pages ≤ gtN P Z pages kind ∧ 0 ≤ kind ∧ (Z.gt P pages kind o).u ≤ Z.u + 1) ∨
    ((gtE P Z pages kind = 1 ∨ gtE P Z pages kind = 4) ∧ gtP P Z pages kind = 0 ∧ gtN P Z pages kind = 0 ∧ Inv P (Z.gt P pages kind o) G ∧ (Z.gt P pages kind o).u ≤ Z.u + 1) := by
  unfold gtP gtN gtE St.gt
  by_cases hb : getB pages kind = true
  · obtain ⟨h1, h2, h3, h4⟩ := (getB_iff _ _).1 hb
    rw [if_pos hb, if_pos hb, if_pos hb, if_pos hb]
    by_cases he : (getF P Z pages).e = 0
    · have g := h.get_ok hP h1 h2 h3 h4 ho he
      exact .inl ⟨he, g.1, g.2.1, g.2.2.1, h3, by rw [g.2.2.2.2]; exact Nat.le_refl _⟩
    · have g := h.get_no (kind := kind) (o := o) h1 h2 he
      exact .inr ⟨.inr g.1, g.2.1, g.2.2.1, g.2.2.2.1, by rw [g.2.2.2.2.2.1]; omega⟩
  · rw [if_neg hb, if_neg hb, if_neg hb, if_neg hb]
    exact .inr ⟨.inl rfl, rfl, rfl, h, by omega⟩
theorem trim_none (P : Nat) (Z : St) (h : M.all Z.K = []) : (Z.trim P).l = Z.l := by unfold St.trim; rw [h]; rfl
/-- The law's own blocks are there all along. -/
theorem Chk.act {bl o : Nat} {x : Act10} (h : IsAct w0 bl o x) : ∀ W, Below w0.heap.size w0 W → IsAct W bl o x := fun W hW => h.keep hW
end
/-- Where there is no room, no run is long enough. -/
theorem full_run {P : Nat} {Z : St} {n : Int} (h1 : 1 ≤ n) (ht : takeB Z.l (M.ckN n) = false) : ∀ r ∈ Z.l, (64 < n → r.n < n) ∧ (n ≤ 64 → r.n < 2 * n - 1) := fun r hr => by
  have h2 := (take_none ht).2.2
  have hc : 64 < n → M.ckN n = n := fun e => by unfold M.ckN; rw [M.cls_none _ e, if_neg (by omega)]
  have hd : n ≤ 64 → M.ckN n < 2 * n ∧ 1 ≤ M.ckN n := fun e => by
    have h := M.cls_some n h1 e
    unfold M.ckN
    rw [if_pos h.1]
    exact ⟨h.2.2.2.1, by omega⟩
  rcases h2 with h2 | h2
  · exfalso
    rcases Int.lt_or_le 64 n with e | e
    · have := hc e; omega
    · have := hd e; omega
  · have h3 := h2 r hr
    exact ⟨fun e => by have := hc e; omega, fun e => by have := hd e; omega⟩
end Go.Proofs.Ytmboibipabkhaaa
/-
  Stores whose free pages lie one behind the other; what ChunkAgain goes by.
-/
namespace Go.Proofs.Ytmboibipabkhaaa
open Go.ChangeShapes Go.WideShapes Go.ChangeAt Go.RowKit Go.Deep
set_option linter.unusedVariables false
set_option maxRecDepth 20000

theorem line_get {P : Nat} {Z : St} {at' r : Int} (hl : Z.l = [⟨at', r⟩]) {pages : Int} (hp : M.popB Z.K (M.cls pages) = false) (h1 : 1 ≤ M.ckN pages) (h2 : M.ckN pages < r) :
    getF P Z pages = ⟨at', 0, [⟨at' + M.ckN pages, r - M.ckN pages⟩], Z.K, Z.T + 2⟩ := by
  have hs := one_step (p := at') h1 h2
  unfold getF
  rw [fd_no hp, hl]
  unfold tw
  rw [if_neg (fun e => by rw [hs.2.1] at e; omega), hs.1, hs.2.1, hs.2.2]
  have hb : takeB [⟨at', r⟩] (M.ckN pages) = true := by
    have h := hs.2.1
    unfold tkE at h
    rw [if_neg (by omega)] at h
    split at h
    · next e => exact e
    · omega
  unfold tkT
  rw [if_pos hb]
  simp
  omega
theorem line_state {P : Nat} {Z : St} {pages kind : Int} {o : Nat} {F : Fd} (h : getF P Z pages = F) (he : F.e = 0) : (Z.get P pages kind o).l = F.l ∧ (Z.get P pages kind o).K = F.K ∧ getP P Z pages = F.p ∧ getN P Z pages = M.ckN pages ∧ (getF P Z pages).e = 0 := by
  unfold St.get getP getN
  rw [h, if_pos he]
  exact ⟨rfl, rfl, if_pos he, by rw [if_pos he], he⟩
theorem pop_empty (c : Int) : M.popB M.empty c = false := rfl
theorem pg_inj {c d : Int} (hc : 0 ≤ c ∧ c < 7) (hd : 0 ≤ d ∧ d < 7) (h : M.pg c = M.pg d) : c = d := by
  have : ∀ c : Int, 0 ≤ c ∧ c < 7 → c = 0 ∨ c = 1 ∨ c = 2 ∨ c = 3 ∨ c = 4 ∨ c = 5 ∨ c = 6 := fun c h => by omega
  rcases this c hc with rfl | rfl | rfl | rfl | rfl | rfl | rfl <;> rcases this d hd with rfl | rfl | rfl | rfl | rfl | rfl | rfl <;> simp [M.pg] at h ⊢
theorem ckN_small {p : Int} (h1 : 1 ≤ p) (h2 : p ≤ 64) : M.ckN p = M.pg (M.cls p) ∧ p ≤ M.ckN p ∧ M.ckN p ≤ 64 ∧ 0 ≤ M.cls p ∧ M.cls p < 7 ∧ M.cls (M.ckN p) = M.cls p := by
  have h := M.cls_some p h1 h2
  have hp := M.pg_le (M.cls p)
  have e : M.ckN p = M.pg (M.cls p) := by unfold M.ckN; rw [if_pos h.1]
  exact ⟨e, by rw [e]; exact h.2.2.1, by rw [e]; exact hp.2, h.1, h.2.1, by rw [e]; exact h.2.2.2.2.2⟩
theorem push_one (c p : Int) (h : 0 ≤ c ∧ c < 7) (hp : 0 ≤ p) : M.pushB M.empty c p = true ∧ M.all (M.pushF M.empty c p) = [⟨p, M.pg c⟩] := by
  have hb : M.pushB M.empty c p = true := (M.pushB_iff _ _ _).2 ⟨h.1, h.2, hp, by simp [M.empty]⟩
  have := M.all_push M.empty c p hb
  exact ⟨hb, List.perm_singleton.1 this⟩
/-- What ChunkAgain goes by. -/
structure AgainF (n m kind : Int) (o : Nat) (k q j : Int) (Z1 Z2 Z3 Z4 : St) : Prop where
  z1 : Z1 = (St.new 2000).get 2000 n 0 1
  z2 : Z2 = Z1.get 2000 1 0 1
  z3 : Z3 = Z2.put 2000 0 k
  z4 : Z4 = Z3.get 2000 m kind o
  g1 : (getF 2000 (St.new 2000) n).e = 0 ∧ getP 2000 (St.new 2000) n = 0 ∧ getN 2000 (St.new 2000) n = k
  g2 : (getF 2000 Z1 1).e = 0 ∧ getP 2000 Z1 1 = k ∧ getN 2000 Z1 1 = 1
  g4 : (getF 2000 Z3 m).e = 0 ∧ getP 2000 Z3 m = q ∧ getN 2000 Z3 m = j
  i0 : Inv 2000 (St.new 2000) []
  i1 : Inv 2000 Z1 [⟨0, k⟩]
  i2 : Inv 2000 Z2 [⟨0, k⟩, ⟨k, 1⟩]
  i3 : Inv 2000 Z3 [⟨k, 1⟩]
  i4 : Inv 2000 Z4 [⟨q, j⟩, ⟨k, 1⟩]
  st : Stands Z4.f q.toNat j.toNat kind.toNat o 0
  us : Z1.u = 1 ∧ Z2.u = 2 ∧ Z3.u = 5 ∧ Z4.u = 6
  c3 : (M.all Z3.K).length = 1
  kk : 1 ≤ k ∧ k ≤ 64 ∧ m ≤ j
  last : (q = 0 ∧ j = k ∧ (M.all Z4.K).length = 0) ∨ (q = k + 1 ∧ j ≠ k)
theorem again_facts (n m kind : Int) (o : Nat) (hn : 1 ≤ n ∧ n ≤ 64) (hm : 1 ≤ m ∧ m ≤ 64) (hk : 0 ≤ kind ∧ kind ≤ 255) (ho : o < 18446744073709551616) : ∃ k q j Z1 Z2 Z3 Z4, AgainF n m kind o k q j Z1 Z2 Z3 Z4 := by
  obtain ⟨k, ek⟩ : ∃ k, k = M.ckN n := ⟨_, rfl⟩
  have hkk := ckN_small hn.1 hn.2
  rw [← ek] at hkk
  have hc1 : M.ckN 1 = 1 := by decide
  have i0 : Inv 2000 (St.new 2000) [] := Inv.new 2000 (by omega)
  have f1 : getF 2000 (St.new 2000) n = ⟨0, 0, [⟨0 + k, 2000 - k⟩], M.empty, 2⟩ := by
    have := line_get (P := 2000) (Z := St.new 2000) (pages := n) rfl rfl (by rw [← ek]; omega) (by rw [← ek]; show k < 2000; omega)
    rw [← ek] at this
    exact this
  have s1 := line_state (kind := 0) (o := 1) f1 rfl
  have g1 := i0.get_ok (by omega) (pages := n) (kind := 0) (o := 1) hn.1 (by omega) (by omega) (by omega) (by omega) s1.2.2.2.2
  rw [s1.2.2.1, s1.2.2.2.1, ← ek] at g1
  obtain ⟨Z1, z1⟩ : ∃ Z1, Z1 = (St.new 2000).get 2000 n 0 1 := ⟨_, rfl⟩
  rw [← z1] at s1 g1
  have f2 : getF 2000 Z1 1 = ⟨0 + k, 0, [⟨0 + k + 1, 2000 - k - 1⟩], M.empty, Z1.T + 2⟩ := by
    have := line_get (P := 2000) (Z := Z1) (pages := 1) s1.1 (by rw [s1.2.1]; rfl) (by rw [hc1]; omega) (by rw [hc1]; omega)
    rw [hc1, s1.2.1] at this
    exact this
  have s2 := line_state (kind := 0) (o := 1) f2 rfl
  have g2 := g1.1.get_ok (by omega) (pages := 1) (kind := 0) (o := 1) (by omega) (by omega) (by omega) (by omega) (by omega) s2.2.2.2.2
  rw [s2.2.2.1, s2.2.2.2.1, hc1] at g2
  obtain ⟨Z2, z2⟩ : ∃ Z2, Z2 = Z1.get 2000 1 0 1 := ⟨_, rfl⟩
  rw [← z2] at s2 g2
  simp only [Int.zero_add] at f1 f2 s1 s2 g1 g2
  have i2 : Inv 2000 Z2 [⟨0, k⟩, ⟨k, 1⟩] := g2.1.perm (List.Perm.swap _ _ _)
  have i3 := i2.put
  have hp := push_one (M.cls n) 0 ⟨hkk.2.2.2.1, hkk.2.2.2.2.1⟩ (by omega)
  have hpk : ptK Z2.K 0 k = true := by
    unfold ptK
    rw [hkk.2.2.2.2.2, s2.2.1, hp.1, ← hkk.1]
    simp
  obtain ⟨Z3, z3⟩ : ∃ Z3, Z3 = Z2.put 2000 0 k := ⟨_, rfl⟩
  rw [← z3] at i3
  have l3 : Z3.l = [⟨k + 1, 2000 - k - 1⟩] := by rw [z3]; show ptL 2000 Z2.l Z2.K 0 k = _; unfold ptL; rw [if_pos hpk, s2.1]
  have k3 : Z3.K = M.pushF M.empty (M.cls n) 0 := by rw [z3]; show ptKy Z2.K 0 k = _; unfold ptKy; rw [if_pos hpk, s2.2.1, hkk.2.2.2.2.2]
  have u3 : Z3.u = Z2.u + 3 := by rw [z3]; rfl
  have hmm := ckN_small hm.1 hm.2
  have e2 : M.pushF M.empty (M.cls n) 0 (M.cls n) = [0] := by rw [M.pushF_yes _ _ _ hp.1, M.upd_self]; rfl
  by_cases hc : M.cls m = M.cls n
  · have pb : M.popB Z3.K (M.cls m) = true := by rw [k3, hc]; unfold M.popB; rw [e2]; rfl
    have f4 : getF 2000 Z3 m = ⟨0, 0, Z3.l, M.popF Z3.K (M.cls m), Z3.T⟩ := by
      unfold getF
      rw [fd_yes pb, k3, hc]
      unfold M.popV
      rw [e2]
      rfl
    have s4 := line_state (kind := kind) (o := o) f4 rfl
    have g4 := i3.1.get_ok (by omega) (pages := m) (kind := kind) (o := o) hm.1 (by omega) hk.1 hk.2 ho s4.2.2.2.2
    have ej : M.ckN m = k := by rw [hmm.1, hc, hkk.1]
    have c4 : (M.all (Z3.get 2000 m kind o).K).length = 0 := by
      have h1 := (M.all_pop i3.1.good (M.cls m) pb).length_eq
      have h2 : (M.all Z3.K).length = 1 := by rw [k3, hp.2]; rfl
      rw [s4.2.1]
      simp only [List.length_cons] at h1
      simp only
      omega
    have c3 : (M.all Z3.K).length = 1 := by rw [k3, hp.2]; rfl
    rw [s4.2.2.1, s4.2.2.2.1, ej] at g4
    exact ⟨k, 0, k, Z1, Z2, Z3, _, ⟨z1, z2, z3, rfl, ⟨s1.2.2.2.2, s1.2.2.1, s1.2.2.2.1.trans ek.symm⟩, ⟨s2.2.2.2.2, s2.2.2.1, s2.2.2.2.1.trans hc1⟩, ⟨s4.2.2.2.2, s4.2.2.1, s4.2.2.2.1.trans ej⟩, i0, g1.1, i2, i3.1, g4.1, g4.2.1, ⟨g1.2.2.2.2, by rw [g2.2.2.2.2, g1.2.2.2.2]; rfl, by rw [u3, g2.2.2.2.2, g1.2.2.2.2]; rfl, by rw [g4.2.2.2.2, u3, g2.2.2.2.2, g1.2.2.2.2]; rfl⟩, c3, ⟨by omega, hkk.2.2.1, by rw [← ej]; exact hmm.2.1⟩, .inl ⟨rfl, rfl, c4⟩⟩⟩
  · have pb : M.popB Z3.K (M.cls m) = false := by
      rw [k3]
      unfold M.popB
      rw [M.pushF_yes _ _ _ hp.1, M.upd_ne _ _ _ _ hc]
      rfl
    have f4 := line_get (P := 2000) (Z := Z3) (pages := m) l3 pb (by omega) (by omega)
    have s4 := line_state (kind := kind) (o := o) f4 rfl
    have g4 := i3.1.get_ok (by omega) (pages := m) (kind := kind) (o := o) hm.1 (by omega) hk.1 hk.2 ho s4.2.2.2.2
    rw [s4.2.2.1, s4.2.2.2.1] at g4
    have c3 : (M.all Z3.K).length = 1 := by rw [k3, hp.2]; rfl
    exact ⟨k, k + 1, M.ckN m, Z1, Z2, Z3, _, ⟨z1, z2, z3, rfl, ⟨s1.2.2.2.2, s1.2.2.1, s1.2.2.2.1.trans ek.symm⟩, ⟨s2.2.2.2.2, s2.2.2.1, s2.2.2.2.1.trans hc1⟩, ⟨s4.2.2.2.2, s4.2.2.1, s4.2.2.2.1⟩, i0, g1.1, i2, i3.1, g4.1, g4.2.1, ⟨g1.2.2.2.2, by rw [g2.2.2.2.2, g1.2.2.2.2]; rfl, by rw [u3, g2.2.2.2.2, g1.2.2.2.2]; rfl, by rw [g4.2.2.2.2, u3, g2.2.2.2.2, g1.2.2.2.2]; rfl⟩, c3, ⟨by omega, hkk.2.2.1, hmm.2.1⟩, .inr ⟨rfl, fun e => hc (pg_inj ⟨hmm.2.2.2.1, hmm.2.2.2.2.1⟩ ⟨hkk.2.2.2.1, hkk.2.2.2.2.1⟩ (by rw [← hmm.1, ← hkk.1, e]))⟩⟩⟩
end Go.Proofs.Ytmboibipabkhaaa
/-
  What ChunkLarge goes by.
-/
namespace Go.Proofs.Ytmboibipabkhaaa
open Go.ChangeShapes Go.WideShapes Go.ChangeAt Go.RowKit Go.Deep
set_option linter.unusedVariables false
set_option maxRecDepth 20000

theorem total_zero {G : List M.R} (hp : ∀ r ∈ G, 1 ≤ r.n) (h : M.total G ≤ 0) : G = [] := by
  have := M.total_pos' hp
  exact List.length_eq_zero_iff.1 (by omega)
/-- All pages are got at once. -/
theorem all_get {P : Nat} {Z : St} (h : Inv P Z []) (h1 : 64 < P) (h2 : P ≤ 1048576) : (getF P Z P).e = 0 ∧ getP P Z P = 0 ∧ getN P Z P = P ∧ M.all (getF P Z P).K = [] ∧ (getF P Z P).l = [] := by
  have hc : M.ckN (P : Int) = P := by unfold M.ckN; rw [M.cls_none _ (by omega), if_neg (by omega)]
  have hg := get_pt h (pages := (P : Int)) (by omega) (by omega)
  rw [hc] at hg
  unfold getP getN
  rw [hc]
  rcases hg.2 with ⟨e, hp⟩ | ⟨e, hp, hk, ht⟩
  · have hin := hp.inn (List.mem_cons_self ..)
    have ht := hp.tot
    rw [M.total_cons] at ht
    simp only at hin ht
    have n1 := M.total_pos' (fun r hr => hp.pos r (List.mem_cons_of_mem _ hr))
    have n2 := M.total_nonneg hp.ok
    rw [if_pos e, if_pos e]
    have z1 := total_zero (fun r hr => hp.pos r (List.mem_cons_of_mem _ hr)) (by omega)
    have z2 : (getF P Z P).l = [] := Classical.byContradiction fun hne => by have := M.total_pos hp.ok hne; omega
    exact ⟨e, by omega, rfl, (List.append_eq_nil_iff.1 z1).1, z2⟩
  · exfalso
    rw [hk, List.nil_append] at hp
    have hd := hp.done (by omega)
    rw [hd, takeB_most (by omega)] at ht
    have := M.le_most (l := [⟨0, (P : Int)⟩]) (r := ⟨0, (P : Int)⟩) (by simp)
    simp at ht
    simp only at this
    omega
/-- Nothing is left. -/
theorem none_get {P : Nat} {Z : St} {G : List M.R} (h : Inv P Z G) (ht : M.total G = P) {pages : Int} (h1 : 1 ≤ pages) (h2 : pages ≤ 1048576) : (getF P Z pages).e ≠ 0 := fun e => by
  have hg := get_pt h h1 h2
  have hn := M.ckN_ge h1 h2
  rcases hg.2 with ⟨_, hp⟩ | ⟨e4, _⟩
  · have h3 := hp.tot
    have h4 := M.total_nonneg hp.ok
    have h5 := M.total_pos' (L := M.all (getF P Z pages).K) (fun r hr => hp.pos r (List.mem_cons_of_mem _ (List.mem_append.2 (.inl hr))))
    rw [M.total_cons, M.total_append] at h3
    simp only at h3
    omega
  · omega
theorem Inv.all_free {P : Nat} {Z : St} (h : Inv P Z []) (h1 : 1 ≤ P) (hk : M.all Z.K = []) : Z.l = [⟨0, P⟩] := by
  have := h.pt
  rw [hk] at this
  exact this.done (by omega)
theorem keeps_le {K : M.Ky} (c : Int) (h : 0 ≤ c ∧ c < 7) : (K c).length ≤ (M.all K).length := by
  have : ∀ k : Nat, c < (k : Int) → (K c).length ≤ (M.allTo K k).length := by
    intro k
    induction k with
    | zero => intro hk; omega
    | succ k ih =>
      intro hk
      simp only [M.allTo, List.length_append, M.rows_length]
      by_cases e : (k : Int) = c
      · rw [e]; omega
      · have := ih (by omega); omega
  exact this 7 h.2
/-- The first loop: chunks are got, one behind the other. -/
structure Lg1 (n i : Nat) (Z : St) (got : List M.R) : Prop where
  inv : Inv n Z got
  line : ∃ at' : Int, 0 ≤ at' ∧ at' ≤ 4 * i ∧ Z.l = [⟨at', n - at'⟩]
  K : Z.K = M.empty
  u : Z.u = i
  len : got.length = i
  cl : ∀ r ∈ got, 1 ≤ r.n ∧ r.n ≤ 64 ∧ M.pg (M.cls r.n) = r.n
theorem Lg1.new (n : Nat) (h : 1 ≤ n) : Lg1 n 0 (St.new n) [] := ⟨Inv.new n h, ⟨0, by omega, by omega, by simp [St.new]⟩, rfl, rfl, rfl, fun r hr => by cases hr⟩
theorem Lg1.step {n i : Nat} {Z : St} {got : List M.R} (h : Lg1 n i Z got) (hi : i ≤ 3) (hn : 65 ≤ n) (hn2 : n ≤ 1048576) (x : Int) (hx : x = 1 ∨ x = 2 ∨ x = 4) :
    (getF n Z x).e = 0 ∧ Lg1 n (i + 1) (Z.get n x 0 1) (got ++ [⟨getP n Z x, getN n Z x⟩]) := by
  obtain ⟨at', h0, h1, hl⟩ := h.line
  have hc : M.ckN x = x ∧ M.pg (M.cls x) = x := by rcases hx with rfl | rfl | rfl <;> decide
  have f := line_get (P := n) (pages := x) hl (by rw [h.K]; rfl) (by rw [hc.1]; omega) (by rw [hc.1]; omega)
  have s := line_state (kind := 0) (o := 1) f rfl
  have g := h.inv.get_ok hn2 (pages := x) (kind := 0) (o := 1) (by omega) (by omega) (by omega) (by omega) (by omega) s.2.2.2.2
  refine ⟨s.2.2.2.2, g.1.perm (List.perm_append_singleton _ _).symm, ⟨at' + x, by omega, by omega, ?_⟩, by rw [s.2.1]; exact h.K, by rw [g.2.2.2.2, h.u], by rw [List.length_append, h.len]; rfl, fun r hr => ?_⟩
  · rw [s.1, hc.1]
    simp
    omega
  · rcases List.mem_append.1 hr with hr | hr
    · exact h.cl r hr
    · rw [List.mem_singleton.1 hr, s.2.2.2.1]
      simp only
      rw [hc.1]
      exact ⟨by omega, by omega, hc.2⟩
/-- The second one: they are put. -/
structure Lg2 (n m i : Nat) (Z : St) (got : List M.R) : Prop where
  inv : Inv n Z (got.drop i)
  kept : (M.all Z.K).length = i
  u : Z.u = m + 3 * i
  len : got.length = m
  cl : ∀ r ∈ got, 1 ≤ r.n ∧ r.n ≤ 64 ∧ M.pg (M.cls r.n) = r.n
theorem Lg1.turn {n m : Nat} {Z : St} {got : List M.R} (h : Lg1 n m Z got) : Lg2 n m 0 Z got := ⟨h.inv, by rw [h.K]; rfl, by rw [h.u]; omega, h.len, h.cl⟩
theorem Lg2.step {n m i : Nat} {Z : St} {got : List M.R} (h : Lg2 n m i Z got) (hm : m ≤ 4) (hi : i < m) (hl : i < got.length) : Inv n Z (⟨got[i].p, got[i].n⟩ :: got.drop (i + 1)) ∧ Lg2 n m (i + 1) (Z.put n got[i].p got[i].n) got := by
  have h1 := h.inv
  rw [List.drop_eq_getElem_cons hl] at h1
  have h2 := Inv.put (p := got[i].p) (n := got[i].n) h1
  have hc := h.cl _ (List.getElem_mem hl)
  have hin := (h1.in (List.mem_cons_self ..)).1
  have hcr := M.cls_some got[i].n hc.1 hc.2.1
  have hk := keeps_le (K := Z.K) (M.cls got[i].n) ⟨hcr.1, hcr.2.1⟩
  have hp : M.pushB Z.K (M.cls got[i].n) got[i].p = true := (M.pushB_iff _ _ _).2 ⟨hcr.1, hcr.2.1, hin, by have := h.kept; omega⟩
  have hpt : ptK Z.K got[i].p got[i].n = true := by unfold ptK; rw [hc.2.2, hp]; simp
  refine ⟨h1, h2.1, ?_, ?_, h.len, h.cl⟩
  · show (M.all (ptKy Z.K got[i].p got[i].n)).length = i + 1
    unfold ptKy
    rw [if_pos hpt, (M.all_push _ _ _ hp).length_eq, List.length_cons, h.kept]
  · show Z.u + 3 = m + 3 * (i + 1)
    rw [h.u]; omega
/-- What stands behind both loops. -/
structure LgE (n m : Nat) (Z Z1 Z2 Z3 : St) : Prop where
  i0 : Inv n Z []
  k0 : (M.all Z.K).length = m
  z1 : Z1 = Z.get n n 1 2
  z2 : Z2 = Z1.get n 1 0 0
  z3 : Z3 = Z2.put n 0 n
  g1 : (getF n Z n).e = 0 ∧ getP n Z n = 0 ∧ getN n Z n = n
  i1 : Inv n Z1 [⟨0, n⟩]
  l1 : Z1.l = [] ∧ (M.all Z1.K).length = 0
  g2 : (getF n Z1 1).e = 4 ∧ getP n Z1 1 = 0 ∧ getN n Z1 1 = 0
  i2 : Inv n Z2 [⟨0, n⟩]
  i3 : Inv n Z3 []
  l3 : Z3.l = [⟨0, n⟩] ∧ (M.all Z3.K).length = 0
  us : Z.u ≤ 16 ∧ Z1.u ≤ 17 ∧ Z2.u ≤ 17
theorem Lg2.done {n m : Nat} {Z : St} {got : List M.R} (h : Lg2 n m m Z got) (hm : m ≤ 4) (hn : 65 ≤ n) (hn2 : n ≤ 1048576) : ∃ Z1 Z2 Z3, LgE n m Z Z1 Z2 Z3 := by
  have i0 := h.inv
  rw [List.drop_of_length_le (by have := h.len; omega)] at i0
  have a1 := all_get i0 (by omega) hn2
  have g1 := i0.get_ok hn2 (pages := (n : Int)) (kind := 1) (o := 2) (by omega) (by omega) (by omega) (by omega) (by omega) a1.1
  rw [a1.2.1, a1.2.2.1] at g1
  obtain ⟨Z1, z1⟩ : ∃ Z1, Z1 = Z.get n n 1 2 := ⟨_, rfl⟩
  rw [← z1] at g1
  have l1 : Z1.l = [] ∧ Z1.K = (getF n Z n).K := by rw [z1]; unfold St.get; rw [if_pos a1.1]; exact ⟨a1.2.2.2.2, rfl⟩
  have e2 := none_get g1.1 (by simp [M.total]) (pages := 1) (by omega) (by omega)
  have g2 := g1.1.get_no (kind := 0) (o := 0) (pages := 1) (by omega) (by omega) e2
  obtain ⟨Z2, z2⟩ : ∃ Z2, Z2 = Z1.get n 1 0 0 := ⟨_, rfl⟩
  rw [← z2] at g2
  have g3 := Inv.put (p := 0) (n := (n : Int)) g2.2.2.2.1
  obtain ⟨Z3, z3⟩ : ∃ Z3, Z3 = Z2.put n 0 n := ⟨_, rfl⟩
  rw [← z3] at g3
  have k3 : M.all Z3.K = [] := by
    rw [z3]
    show M.all (ptKy Z2.K 0 n) = []
    unfold ptKy ptK
    rw [M.cls_none _ (by omega), if_neg (by rw [M.pg_out _ (by omega)]; simp; omega)]
    exact g2.2.2.2.2.2.2.1
  refine ⟨Z1, Z2, Z3, i0, h.kept, z1, z2, z3, ⟨a1.1, a1.2.1, a1.2.2.1⟩, g1.1, ⟨l1.1, by rw [l1.2, a1.2.2.2.1]; rfl⟩, ⟨g2.1, g2.2.1, g2.2.2.1⟩, g2.2.2.2.1, g3.1, ⟨g3.1.all_free (by omega) k3, by rw [k3]; rfl⟩, ?_⟩
  have := h.u
  have := g1.2.2.2.2
  have := g2.2.2.2.2.2.1
  omega
end Go.Proofs.Ytmboibipabkhaaa
/-
  What ChunkAll goes by.
-/
namespace Go.Proofs.Ytmboibipabkhaaa
open Go.ChangeShapes Go.WideShapes Go.ChangeAt Go.RowKit Go.Deep
set_option linter.unusedVariables false
set_option maxRecDepth 20000

theorem ielem : Try.prog.elem 46 = 3 := by kernel_rfl
theorem iund : Try.prog.underlying 46 = some (.slice (Try.prog.elem 46)) := by rw [ielem]; exact Try.underlying46
theorem isize (W : World) : (Go.sizeOf 3).run Try.prog W = .ok 1 W := by
  obtain ⟨i, hi, hz, hs, hb⟩ := infoI
  simp [Go.sizeOf, typeInfo, hi, hs]
theorem icut_to (bl o n cap i : Nat) (hi : i ≤ cap) (W : World) : (Instr.slice 46 (.slice (some ⟨bl, o, none⟩) n cap) none (some (.int .i64 (i : Int))) none).run Try.prog W = .ok (.slice (some ⟨bl, o, none⟩) i cap) W := by
  rw [run_slice_h W 46 (some ⟨bl, o, none⟩) n cap iund .i64 i (by omega) (by omega), ielem, isize]
  simp only [Result.andThen_ok, sliced, Int.toNat_natCast, Nat.sub_zero, Nat.zero_mul]
  split <;> simp [add_zero']
theorem Lst.cut {w : World} {B g t c s : Nat} {ps : List Int} {p : Int} {Q : Nat → Prop} (h : Lst w 3 1 B (some ⟨g, 0, none⟩) (t + 1) c (ints10 (ps ++ [p])) Q s) : Lst w 3 1 B (some ⟨g, 0, none⟩) t c (ints10 ps) Q s := by
  refine ⟨?_, h.off⟩
  have hl : ps.length = t := by have := h.row.1; rw [ints10_length, List.length_append] at this; simp at this; omega
  refine ⟨by rw [ints10_length]; omega, ?_⟩
  rcases h.row.2 with ⟨h1, _⟩ | ⟨g', cap, cur, h1, h2, h3, h4, h5, h6, h7⟩
  · cases h1
  · cases h1
    refine .inr ⟨g, c, cur, rfl, h2, h3, by omega, h5, h6, ?_⟩
    have : cur.toList.take (t * 1) = (cur.toList.take ((t + 1) * 1)).take (t * 1) := by rw [List.take_take, Nat.min_eq_left (by omega)]
    rw [this, h7]
    unfold ints10
    rw [List.map_append, List.take_append_of_le_length (by simp; omega), List.take_of_length_le (by simp; omega)]
/-- What was got last. -/
theorem last_of {G : List M.R} {t : Nat} (h : G.length = t + 1) : ∃ (G' : List M.R) (r : M.R), G = G' ++ [r] ∧ G'.length = t := by
  refine ⟨G.dropLast, G.getLast (by intro e; rw [e] at h; simp at h), (List.dropLast_concat_getLast _).symm, by simp [h]⟩
/-- What stands behind some acts. -/
structure AllS (w wr : World) (s a b c N j t cc : Nat) (A : Option Addr) (Z : St) (Q : Nat → Prop) (G : List M.R) : Prop where
  chk : Chk (rowD A) w wr s a b c N Z Q (60 * j)
  lst : Lst wr 3 1 w.heap.size A t cc (ints10 (G.map (·.p))) Q s
  inv : Inv N Z G
  u : Z.u ≤ 5 * j
  tl : t = G.length
  tj : t ≤ j
/-- A power of two, or not. -/
theorem pow64 : ∀ n : Nat, n < 65 → 1 ≤ n → M.pg (M.cls (n : Int)) = n ∨ (bits BinOp.and IntKind.i64 (n : Int) ((n : Int) - 1) != 0) = true := by decide +kernel
theorem few_get {P : Nat} {Z : St} (h : Inv P Z []) (h1 : 1 ≤ P) (h2 : P ≤ 64) : ((getF P Z P).e = 0 ∧ (P : Int) ≤ getN P Z P) ∨ ((getF P Z P).e = 4 ∧ (bits BinOp.and IntKind.i64 (P : Int) ((P : Int) - 1) != 0) = true) := by
  have hg := get_pt h (pages := (P : Int)) (by omega) (by omega)
  have hk := ckN_small (p := (P : Int)) (by omega) (by omega)
  rcases hg.2 with ⟨e, hp⟩ | ⟨e, hp, hkk, ht⟩
  · left
    refine ⟨e, ?_⟩
    unfold getN
    rw [if_pos e]
    omega
  · right
    refine ⟨e, ?_⟩
    rcases pow64 P (by omega) h1 with h3 | h3
    · exfalso
      rw [hkk, List.nil_append] at hp
      have hd := hp.done (by omega)
      rw [hd, takeB_most (by omega), hk.1, h3] at ht
      have := M.le_most (l := [⟨0, (P : Int)⟩]) (r := ⟨0, (P : Int)⟩) (by simp)
      simp at ht
      simp only at this
      omega
    · exact h3
end Go.Proofs.Ytmboibipabkhaaa
