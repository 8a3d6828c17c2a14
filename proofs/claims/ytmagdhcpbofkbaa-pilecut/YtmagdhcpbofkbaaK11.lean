/-
  Lists of one's own beside a Store.
-/
import Derived.Test.YtmagdhcpbofkbaaK10
import Derived.Deep.Slices
import Derived.Deep.Fields
namespace Go.Proofs.Ytmagdhcpbofkbaa
open Go.ChangeShapes Go.WideShapes Go.ChangeAt Go.RowKit Go.Deep
set_option linter.unusedVariables false
set_option maxRecDepth 20000

/-- The block in which a list lies. -/
abbrev rowD (A : Option Addr) : Nat → Prop := fun x => ∃ ad, A = some ad ∧ ad.block = x
theorem own_D {A : Option Addr} {t c x : Nat} (h : (Value.slice A t c).ownBlock = some x) : rowD A x := by
  cases A with
  | none => simp [Value.ownBlock] at h
  | some ad => simp [Value.ownBlock] at h; exact ⟨ad, rfl, h⟩
def ints10 (ps : List Int) : List Value := ps.map fun p => .int .i64 p
theorem ints10_one (ps : List Int) : ∀ u ∈ ints10 ps, u.oneCell' = true := fun u hu => by
  obtain ⟨p, _, rfl⟩ := List.mem_map.1 hu
  rfl
theorem ints10_length (ps : List Int) : (ints10 ps).length = ps.length := by simp [ints10]
theorem infoI : ∃ i, Try.prog.info? 3 = some i ∧ i.zero = some (.int .i64 0) ∧ i.size = 1 ∧ i.bytes = 8 := ⟨_, by rfl, by rfl, by rfl, by rfl⟩
theorem num_cell10 (w : World) (p : Int) : ∀ j u, (ints10 [p])[j]? = some u → (w.alloc (.cells #[.int .i64 p] 3)).cell? ((⟨w.heap.size, 0, none⟩ : Addr).add j) = some u := fun j u hu => by
  rw [Addr.add_lit, Nat.zero_add, World.cell?_alloc_mark]
  simpa [ints10] using hu
/-- A list of one's own, beside a Store. -/
structure Lst (w : World) (e : TypeId) (z B : Nat) (A : Option Addr) (t c : Nat) (xs : List Value) (Q : Nat → Prop) (s : Nat) : Prop where
  row : w.ownsRow B e z (.slice A t c) t xs
  off : ∀ x, rowD A x → ¬ Q x ∧ x ≠ s
section
variable {w w' : World} {e : TypeId} {z B t c s : Nat} {A : Option Addr} {xs : List Value} {Q O : Nat → Prop}
theorem row_low (h : w.ownsRow B e z (.slice A t c) t xs) {x : Nat} (hx : rowD A x) : B ≤ x ∧ x < w.heap.size := by
  obtain ⟨ad, rfl, rfl⟩ := hx
  rcases h.2 with ⟨h, _⟩ | ⟨g, cap, cur, e1, h1, h2, _⟩
  · cases h
  · cases e1
    exact ⟨h1, (Array.getElem?_eq_some_iff.1 h2).1⟩
theorem row_cap (h : w.ownsRow B e z (.slice A t c) t xs) : t ≤ c ∨ t = 0 := by
  rcases h.2 with ⟨h, h0⟩ | ⟨g, cap, cur, e1, h1, h2, h3, _⟩
  · exact .inr h0
  · cases e1
    exact .inl h3
theorem row_kept (h : w.ownsRow B e z (.slice A t c) t xs) (k : Kept w w' O) (hO : ∀ x, rowD A x → ¬ O x) : w'.ownsRow B e z (.slice A t c) t xs := by
  refine ⟨h.1, ?_⟩
  rcases h.2 with h1 | ⟨g, cap, cur, h1, h2, h3, h4⟩
  · exact .inl h1
  · refine .inr ⟨g, cap, cur, h1, h2, (k.block g (Array.getElem?_eq_some_iff.1 h3).1 (hO g ?_)).trans h3, h4⟩
    cases h1
    exact ⟨_, rfl, rfl⟩
theorem row_some (h : w.ownsRow B e z (.slice A t c) t xs) (ht : 0 < t) : ∃ g, A = some ⟨g, 0, none⟩ := by
  rcases h.2 with ⟨_, h0⟩ | ⟨g, cap, cur, e1, _⟩
  · omega
  · cases e1
    exact ⟨g, rfl⟩
theorem Lst.none' (w : World) (e : TypeId) (z B : Nat) (Q : Nat → Prop) (s : Nat) : Lst w e z B none 0 0 [] Q s := ⟨⟨by simp, .inl ⟨rfl, rfl⟩⟩, fun x hx => by obtain ⟨ad, h, _⟩ := hx; cases h⟩
theorem Lst.call (h : Lst w e z B A t c xs Q s) (hk : Kept w w' Q) : Lst w' e z B A t c xs (Wid Q w w') s :=
  ⟨row_kept h.row hk (fun x hx => (h.off x hx).1), fun x hx => ⟨fun e => e.elim (h.off x hx).1 (fun e => by have := (row_low h.row hx).2; omega), (h.off x hx).2⟩⟩
theorem Lst.below (h : Lst w e z B A t c xs Q s) (hb : Below w.heap.size w w') : Lst w' e z B A t c xs Q s :=
  ⟨row_kept h.row (Kept.of_below hb (fun _ => False)) (fun _ _ e => e), h.off⟩
theorem Lst.cell {ps : List Int} (h : Lst w 3 1 B A t c (ints10 ps) Q s) {j : Nat} (hj : j < ps.length) : ∃ g, A = some ⟨g, 0, none⟩ ∧ w.cell? ⟨g, j, none⟩ = some (.int .i64 ps[j]) := by
  have ht : t = ps.length := by have := h.row.1; rw [ints10_length] at this; omega
  obtain ⟨g, rfl⟩ := row_some h.row (by omega)
  refine ⟨g, rfl, ?_⟩
  have := h.row.cells (g := g) rfl j (.int .i64 ps[j]) (by simp [ints10, hj])
  rwa [Addr.add_lit, Nat.zero_add] at this
end
section
variable {w0 w w' : World} {s a b c P : Nat} {Z : St} {Q D D' O : Nat → Prop} {k : Nat}
/-- Blocks are written that are not the Store's. -/
theorem Chk.other (h : Chk D w0 w s a b c P Z Q k) (hk : Kept w w' O) (hO : ∀ x, O x → ¬ Q x ∧ x ≠ s ∧ w0.heap.size ≤ x ∧ (Z.l ≠ [] → Apt w a x)) (hD : ∀ x, D' x → D x ∨ w.heap.size ≤ x) (hD' : ∀ x, D' x → x < w'.heap.size) : Chk D' w0 w' s a b c P Z Q k := by
  have H := h.st
  obtain ⟨U, h1, h2, h3, h4, h5⟩ := H.sp
  have hb : Below w0.heap.size w0 w' := H.bel.trans (hk.below H.bel.size (fun x hx => (hO x hx).2.2.1))
  have hs := H.al.besides hk (fun e => (hO a e).1 H.qa) (fun hl x hx => (hO x hx).2.2.2 hl) hb
  have hc : ¬ O c := fun e => (hO c e).1 H.qc
  refine ⟨⟨hs.1, ⟨U, h1.other hk (fun x hx e => (hO x e).1 (h2 x hx)) hb, h2, h3, h4, fun hl x hx => (h5 hl x hx).same hs.2⟩, H.kp.besides hk hc hb, H.qa, H.qc, H.ac, fun hl => (H.ap hl).same hs.2, fun x hx => Nat.lt_of_lt_of_le (H.lt x hx) hk.size, H.old, fun hl x hx => ?_, hD'⟩, h.bx.kept hk (fun e => (hO s e).2.1 rfl), h.no⟩
  rcases hD x hx with hd | hd
  · exact (H.rs hl x hd).same hs.2
  · exact (Apt.new H.al.has hl hd).same hs.2
/-- Something is appended to one's own list. -/
theorem Chk.app {e : TypeId} {z t c' m g1 c1 : Nat} {A : Option Addr} {xs ys : List Value} (h : Chk (rowD A) w0 w s a b c P Z Q k) (hl : Lst w e z w0.heap.size A t c' xs Q s) (hrow : w'.ownsRow w0.heap.size e z (.slice (some ⟨g1, 0, none⟩) (t + m) c1) (t + m) (xs ++ ys))
    (hgr : w.grownBy w' (Value.slice A t c').ownBlock) (hat : (Value.slice A t c').ownBlock = some g1 ∨ g1 = w.heap.size) (hlt : g1 < w'.heap.size) :
    Chk (rowD (some ⟨g1, 0, none⟩)) w0 w' s a b c P Z Q k ∧ Lst w' e z w0.heap.size (some ⟨g1, 0, none⟩) (t + m) c1 (xs ++ ys) Q s := by
  have hk : Kept w w' (rowD A) := (Kept.refl w _).grown hgr (fun x e _ => own_D e)
  have hd : rowD A g1 ∨ g1 = w.heap.size := hat.imp own_D id
  refine ⟨h.other hk (fun x hx => ⟨(hl.off x hx).1, (hl.off x hx).2, (row_low hl.row hx).1, fun e => h.st.rs e x hx⟩) (fun x hx => ?_) (fun x hx => ?_), hrow, fun x hx => ?_⟩
  · obtain ⟨ad, e, rfl⟩ := hx
    cases e
    exact hd.imp id (fun e => Nat.le_of_eq e.symm)
  · obtain ⟨ad, e, rfl⟩ := hx
    cases e
    exact hlt
  · obtain ⟨ad, e, rfl⟩ := hx
    cases e
    show ¬ Q g1 ∧ g1 ≠ s
    rcases hd with hd | hd
    · exact hl.off g1 hd
    · exact ⟨fun q => by have := h.st.lt _ q; omega, fun e => by have := h.bx.lt; omega⟩
theorem Chk.noD (h : Chk D w0 w s a b c P Z Q k) (hD : ∀ x, ¬ D' x) : Chk D' w0 w s a b c P Z Q k :=
  ⟨⟨h.st.al, h.st.sp, h.st.kp, h.st.qa, h.st.qc, h.st.ac, h.st.ap, h.st.lt, h.st.old, fun _ x hx => absurd hx (hD x), fun x hx => absurd hx (hD x)⟩, h.bx, h.no⟩
theorem rowD_none : ∀ x, ¬ rowD none x := fun x ⟨_, e, _⟩ => by cases e
end
/-- A number is appended. -/
theorem Chk.app1 {w0 W w' : World} {s a b c P k t c' g1 c1 : Nat} {Z : St} {Q : Nat → Prop} {A : Option Addr} {ps : List Int} {p : Int} (h : Chk (rowD A) w0 W s a b c P Z Q k) (hl : Lst W 3 1 w0.heap.size A t c' (ints10 ps) Q s) (hrow : w'.ownsRow w0.heap.size 3 1 (.slice (some ⟨g1, 0, none⟩) (t + 1) c1) (t + 1) (ints10 ps ++ ints10 [p]))
    (hgr : (W.alloc (.cells #[.int .i64 p] 3)).grownBy w' (Value.slice A t c').ownBlock) (hat : (Value.slice A t c').ownBlock = some g1 ∨ g1 = (W.alloc (.cells #[.int .i64 p] 3)).heap.size) (hlt : g1 < w'.heap.size) :
    Chk (rowD (some ⟨g1, 0, none⟩)) w0 w' s a b c P Z Q k ∧ Lst w' 3 1 w0.heap.size (some ⟨g1, 0, none⟩) (t + 1) c1 (ints10 (ps ++ [p])) Q s := by
  have hb : Below W.heap.size W (W.alloc (.cells #[.int .i64 p] 3)) := (Below.refl _ _).alloc (Nat.le_refl _) _
  have := (h.below hb).app (hl.below hb) hrow hgr hat hlt
  rw [show ints10 (ps ++ [p]) = ints10 ps ++ ints10 [p] by simp [ints10]]
  exact this
end Go.Proofs.Ytmagdhcpbofkbaa
/-
  Arguments of layer 10: slices of acts.
-/
namespace Go.Proofs.Ytmagdhcpbofkbaa
open Go.ChangeShapes Go.WideShapes Go.ChangeAt Go.RowKit Go.Deep
set_option linter.unusedVariables false
set_option maxRecDepth 20000

section
variable {H : Type} {enc : TypeId × Value → H} {W : World} {base : Nat} {spare : Nat → Bool} {held : Bool}
theorem list_of {α : Type} {Q : Nat → α → Prop} (n : Nat) (h : ∀ i, i < n → ∃ x, Q i x) : ∃ l : List α, l.length = n ∧ ∀ i (hi : i < l.length), Q i l[i] := by
  induction n with
  | zero => exact ⟨[], rfl, fun i hi => absurd hi (by simp)⟩
  | succ n ih =>
    obtain ⟨l, h1, h2⟩ := ih (fun i hi => h i (by omega))
    obtain ⟨x, hx⟩ := h n (by omega)
    refine ⟨l ++ [x], by simp [h1], fun i hi => ?_⟩
    rcases Nat.lt_or_ge i l.length with hl | hl
    · rw [List.getElem_append_left hl]
      exact h2 i hl
    · have e : i = n := by simp at hi; omega
      subst e
      rw [List.getElem_append_right (by omega)]
      simpa using hx
theorem one_of {cs : List Value} {j n : Nat} (hn : cs.length = n) (hj : j < n) : ∃ v, cs[j]? = some v ∧ (cs.drop j).take 1 = [v] := by
  have h1 : j < cs.length := by omega
  refine ⟨cs[j], List.getElem?_eq_getElem h1, ?_⟩
  rw [List.drop_eq_getElem_cons h1]
  rfl
/-- An act: a chunk that is got, put, or all are trimmed. -/
structure Act10 where
  d : Nat
  p : Int
  k : Int
  o : Nat
  i : Nat
structure IsAct (w : World) (bl o : Nat) (x : Act10) : Prop where
  c0 : w.cell? ⟨bl, o, none⟩ = some (.int .u8 (x.d : Int))
  c1 : w.cell? ⟨bl, o + 1, none⟩ = some (.int .i64 x.p)
  c2 : w.cell? ⟨bl, o + 2, none⟩ = some (.int .i64 x.k)
  c3 : w.cell? ⟨bl, o + 3, none⟩ = some (.int .u64 (x.o : Int))
  c4 : w.cell? ⟨bl, o + 4, none⟩ = some (.int .u8 (x.i : Int))
  d8 : x.d < 256
  pr : -9223372036854775808 ≤ x.p ∧ x.p ≤ 9223372036854775807
  kr : -9223372036854775808 ≤ x.k ∧ x.k ≤ 9223372036854775807
  or : x.o < 18446744073709551616
  ir : x.i < 256
/-- Acts at a slice's address. -/
def Acts (W : World) (A : Option Addr) (l : List Act10) : Prop := 0 < l.length → ∃ bl o, A = some ⟨bl, o, none⟩ ∧ ∀ i (h : i < l.length), IsAct W bl (o + i * 5) l[i]
/-- What the walk is told of a slice of acts. -/
def IsActs (W : World) (A : Option Addr) (len : Nat) : Prop := len ≤ 9223372036854775807 ∧ ∃ l : List Act10, len = l.length ∧ Acts W A l
theorem IsAct.keep {w w' : World} {bl o : Nat} {x : Act10} (h : IsAct w bl o x) (hb : Below w.heap.size w w') : IsAct w' bl o x :=
  ⟨(hb.cell (lt_of_cell h.c0)).trans h.c0, (hb.cell (lt_of_cell h.c1)).trans h.c1, (hb.cell (lt_of_cell h.c2)).trans h.c2, (hb.cell (lt_of_cell h.c3)).trans h.c3, (hb.cell (lt_of_cell h.c4)).trans h.c4, h.d8, h.pr, h.kr, h.or, h.ir⟩
end
end Go.Proofs.Ytmagdhcpbofkbaa
/-
  Get of whatever is asked for.
-/
namespace Go.Proofs.Ytmagdhcpbofkbaa
open Go.ChangeShapes Go.WideShapes Go.ChangeAt Go.RowKit Go.Deep
set_option linter.unusedVariables false
set_option maxRecDepth 20000

def gtE (P : Nat) (Z : St) (pages kind : Int) : Int := if getB pages kind = true then (getF P Z pages).e else 1
def gtP (P : Nat) (Z : St) (pages kind : Int) : Int := if getB pages kind = true then getP P Z pages else 0
def gtN (P : Nat) (Z : St) (pages kind : Int) : Int := if getB pages kind = true then getN P Z pages else 0
def St.gt (P : Nat) (Z : St) (pages kind : Int) (o : Nat) : St := if getB pages kind = true then Z.get P pages kind o else Z
section
variable {w0 w : World} {s a b c P : Nat} {Z : St} {Q D : Nat → Prop} {k : Nat} {G : List M.R}
theorem cgetA_any (h : Chk D w0 w s a b c P Z Q k) (hk : k ≤ 80000) (hu : Z.u ≤ 900000000000) (hi : Inv P Z G) (pages kind : Int) (o : Nat) (ho : o < 18446744073709551616) :
    Calls Try.prog 24 #[.pointer (some ⟨s, 0, none⟩), .int .i64 pages, .int .i64 kind, .int .u64 (o : Int)] w fun e w' => e = .returned (.tuple #[.int .i64 (gtP P Z pages kind), .int .i64 (gtN P Z pages kind), .int .i64 (gtE P Z pages kind)]) ∧ Chk D w0 w' s a b c P (Z.gt P pages kind o) (Wid Q w w') (k + 30) ∧ Kept w w' Q := by
  unfold gtP gtN gtE St.gt
  by_cases hb : getB pages kind = true
  · obtain ⟨h1, h2, h3, h4⟩ := (getB_iff _ _).1 hb
    rw [if_pos hb, if_pos hb, if_pos hb, if_pos hb]
    exact cget_any h hk hu hi pages kind o h1 h2 h3 h4 ho
  · rw [if_neg hb, if_neg hb, if_neg hb, if_neg hb]
    refine (chget_bad w _ pages kind (o : Int) (by simpa using hb)).mono ?_
    rintro e w' ⟨rfl, hb'⟩
    have hk' := Kept.of_below hb' Q
    exact ⟨rfl, (h.next (h.st.below hb') hk' (fun x e => .inl e)).more (by omega), hk'⟩
theorem Inv.gt (h : Inv P Z G) (hP : P ≤ 1048576) (pages kind : Int) (o : Nat) (ho : o < 18446744073709551616) :
    (gtE P Z pages kind = 0 ∧ Inv P (Z.gt P pages kind o) (⟨gtP P Z pages kind, gtN P Z pages kind⟩ :: G) ∧ Stands (Z.gt P pages kind o).f (gtP P Z pages kind).toNat (gtN P Z pages kind).toNat kind.toNat o 0 ∧ pages ≤ gtN P Z pages kind ∧ 0 ≤ kind ∧ (Z.gt P pages kind o).u ≤ Z.u + 1) ∨
    ((gtE P Z pages kind = 1 ∨ gtE P Z pages kind = 4) ∧ gtP P Z pages kind = 0 ∧ gtN P Z pages kind = 0 ∧ Inv P (Z.gt P pages kind o) G ∧ (Z.gt P pages kind o).u ≤ Z.u + 1) := by
  unfold gtP gtN gtE St.gt
  by_cases hb : getB pages kind = true
  · obtain ⟨h1, h2, h3, h4⟩ := (getB_iff _ _).1 hb
    rw [if_pos hb, if_pos hb, if_pos hb, if_pos hb]
    by_cases he : (getF P Z pages).e = 0
    · have g := h.get_ok hP h1 h2 h3 h4 ho he
      exact .inl ⟨he, g.1, g.2.1, g.2.2.1, h3, by rw [g.2.2.2.2]; exact Nat.le_refl _⟩
    · have g := h.get_no (kind := kind) (o := o) h1 h2 he
      exact .inr ⟨.inr g.1, g.2.1, g.2.2.1, g.2.2.2.1, by rw [g.2.2.2.2.2.1]; omega⟩
  · rw [if_neg hb, if_neg hb, if_neg hb, if_neg hb]
    exact .inr ⟨.inl rfl, rfl, rfl, h, by omega⟩
theorem trim_none (P : Nat) (Z : St) (h : M.all Z.K = []) : (Z.trim P).l = Z.l := by unfold St.trim; rw [h]; rfl
/-- The law's own blocks are there all along. -/
theorem Chk.act {bl o : Nat} {x : Act10} (h : IsAct w0 bl o x) : ∀ W, Below w0.heap.size w0 W → IsAct W bl o x := fun W hW => h.keep hW
end
/-- Where there is no room, no run is long enough. -/
theorem full_run {P : Nat} {Z : St} {n : Int} (h1 : 1 ≤ n) (ht : takeB Z.l (M.ckN n) = false) : ∀ r ∈ Z.l, (64 < n → r.n < n) ∧ (n ≤ 64 → r.n < 2 * n - 1) := fun r hr => by
  have h2 := (take_none ht).2.2
  have hc : 64 < n → M.ckN n = n := fun e => by unfold M.ckN; rw [M.cls_none _ e, if_neg (by omega)]
  have hd : n ≤ 64 → M.ckN n < 2 * n ∧ 1 ≤ M.ckN n := fun e => by
    have h := M.cls_some n h1 e
    unfold M.ckN
    rw [if_pos h.1]
    exact ⟨h.2.2.2.1, by omega⟩
  rcases h2 with h2 | h2
  · exfalso
    rcases Int.lt_or_le 64 n with e | e
    · have := hc e; omega
    · have := hd e; omega
  · have h3 := h2 r hr
    exact ⟨fun e => by have := hc e; omega, fun e => by have := hd e; omega⟩
end Go.Proofs.Ytmagdhcpbofkbaa
