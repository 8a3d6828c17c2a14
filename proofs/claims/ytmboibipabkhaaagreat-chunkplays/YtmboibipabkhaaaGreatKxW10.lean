/-
  Lists of one's own beside a Store.
-/
import Derived.Test.YtmboibipabkhaaaGreatKxK10
namespace Go.Proofs.YtmboibipabkhaaaGreat
open Go.ChangeShapes Go.WideShapes Go.ChangeAt Go.RowKit Go.Deep
set_option linter.unusedVariables false
set_option maxRecDepth 20000
abbrev rowD (A : Option Addr) : Nat → Prop := fun x => ∃ ad, A = some ad ∧ ad.block = x
theorem own_D {A : Option Addr} {t c x : Nat} (h : (Value.slice A t c).ownBlock = some x) : rowD A x := by
 cases A with
 | none => simp [Value.ownBlock] at h
 | some ad => simp [Value.ownBlock] at h; exact ⟨ad, rfl, h⟩
def ints10 (ps : List Int) : List Value := ps.map fun p => .int .i64 p
theorem ints10_one (ps : List Int) : ∀ u ∈ ints10 ps, u.oneCell' = true := fun u hu => by
 obtain ⟨p, _, rfl⟩ := List.mem_map.1 hu
 rfl
theorem ints10_length (ps : List Int) : (ints10 ps).length = ps.length := by simp [ints10]
theorem infoI : ∃ i, Tryz.prog.info? 3 = some i ∧ i.zero = some (.int .i64 0) ∧ i.size = 1 ∧ i.bytes = 8 := ⟨_, by rfl, by rfl, by rfl, by rfl⟩
theorem num_cell10 (w : World) (p : Int) : ∀ j u, (ints10 [p])[j]? = some u → (w.alloc (.cells #[.int .i64 p] 3)).cell? ((⟨w.heap.size, 0, none⟩ : Addr).add j) = some u := fun j u hu => by
 rw [Addr.add_lit, Nat.zero_add, World.cell?_alloc_mark]
 simpa [ints10] using hu
structure Lst (w : World) (e : TypeId) (z B : Nat) (A : Option Addr) (t c : Nat) (xs : List Value) (Q : Nat → Prop) (s : Nat) : Prop where
 row : w.ownsRow B e z (.slice A t c) t xs
 off : ∀ x, rowD A x → ¬ Q x ∧ x ≠ s
section
variable {w w' : World} {e : TypeId} {z B t c s : Nat} {A : Option Addr} {xs : List Value} {Q O : Nat → Prop}
theorem row_low (h : w.ownsRow B e z (.slice A t c) t xs) {x : Nat} (hx : rowD A x) : B ≤ x ∧ x < w.heap.size := by
 obtain ⟨ad, rfl, rfl⟩ := hx
 rcases h.2 with ⟨h, _⟩ | ⟨g, cap, cur, e1, h1, h2, _⟩
 ·cases h
 ·cases e1
  exact ⟨h1, (Array.getElem?_eq_some_iff.1 h2).1⟩
theorem row_cap (h : w.ownsRow B e z (.slice A t c) t xs) : t ≤ c ∨ t = 0 := by
 rcases h.2 with ⟨h, h0⟩ | ⟨g, cap, cur, e1, h1, h2, h3, _⟩
 ·exact .inr h0
 ·cases e1
  exact .inl h3
theorem row_kept (h : w.ownsRow B e z (.slice A t c) t xs) (k : Kept w w' O) (hO : ∀ x, rowD A x → ¬ O x) : w'.ownsRow B e z (.slice A t c) t xs := by
 refine ⟨h.1, ?_⟩
 rcases h.2 with h1 | ⟨g, cap, cur, h1, h2, h3, h4⟩
 ·exact .inl h1
 ·refine .inr ⟨g, cap, cur, h1, h2, (k.block g (Array.getElem?_eq_some_iff.1 h3).1 (hO g ?_)).trans h3, h4⟩
  cases h1
  exact ⟨_, rfl, rfl⟩
theorem row_some (h : w.ownsRow B e z (.slice A t c) t xs) (ht : 0 < t) : ∃ g, A = some ⟨g, 0, none⟩ := by
 rcases h.2 with ⟨_, h0⟩ | ⟨g, cap, cur, e1, _⟩
 ·omega
 ·cases e1
  exact ⟨g, rfl⟩
theorem Lst.none' (w : World) (e : TypeId) (z B : Nat) (Q : Nat → Prop) (s : Nat) : Lst w e z B none 0 0 [] Q s := ⟨⟨by simp, .inl ⟨rfl, rfl⟩⟩, fun x hx => by obtain ⟨ad, h, _⟩ := hx; cases h⟩
theorem Lst.call (h : Lst w e z B A t c xs Q s) (hk : Kept w w' Q) : Lst w' e z B A t c xs (Wid Q w w') s :=
 ⟨row_kept h.row hk (fun x hx => (h.off x hx).1), fun x hx => ⟨fun e => e.elim (h.off x hx).1 (fun e => by have := (row_low h.row hx).2; omega), (h.off x hx).2⟩⟩
theorem Lst.below (h : Lst w e z B A t c xs Q s) (hb : Below w.heap.size w w') : Lst w' e z B A t c xs Q s :=
 ⟨row_kept h.row (Kept.of_below hb (fun _ => False)) (fun _ _ e => e), h.off⟩
theorem Lst.cell {ps : List Int} (h : Lst w 3 1 B A t c (ints10 ps) Q s) {j : Nat} (hj : j < ps.length) : ∃ g, A = some ⟨g, 0, none⟩ ∧ w.cell? ⟨g, j, none⟩ = some (.int .i64 ps[j]) := by
 have ht : t = ps.length := by have := h.row.1; rw [ints10_length] at this; omega
 obtain ⟨g, rfl⟩ := row_some h.row (by omega)
 refine ⟨g, rfl, ?_⟩
 have := h.row.cells (g := g) rfl j (.int .i64 ps[j]) (by simp [ints10, hj])
 rwa [Addr.add_lit, Nat.zero_add] at this
end
section
variable {w0 w w' : World} {s a b c P : Nat} {Z : St} {Q D D' O : Nat → Prop} {k : Nat}
theorem Chk.other (h : Chk D w0 w s a b c P Z Q k) (hk : Kept w w' O) (hO : ∀ x, O x → ¬ Q x ∧ x ≠ s ∧ w0.heap.size ≤ x ∧ (Z.l ≠ [] → Apt w a x)) (hD : ∀ x, D' x → D x ∨ w.heap.size ≤ x) (hD' : ∀ x, D' x → x < w'.heap.size) : Chk D' w0 w' s a b c P Z Q k := by
 have H := h.st
 obtain ⟨U, h1, h2, h3, h4, h5⟩ := H.sp
 have hb : Below w0.heap.size w0 w' := H.bel.trans (hk.below H.bel.size (fun x hx => (hO x hx).2.2.1))
 have hs := H.al.besides hk (fun e => (hO a e).1 H.qa) (fun hl x hx => (hO x hx).2.2.2 hl) hb
 have hc : ¬ O c := fun e => (hO c e).1 H.qc
 refine ⟨⟨hs.1, ⟨U, h1.other hk (fun x hx e => (hO x e).1 (h2 x hx)) hb, h2, h3, h4, fun hl x hx => (h5 hl x hx).same hs.2⟩, H.kp.besides hk hc hb, H.qa, H.qc, H.ac, fun hl => (H.ap hl).same hs.2, fun x hx => Nat.lt_of_lt_of_le (H.lt x hx) hk.size, H.old, fun hl x hx => ?_, hD'⟩, h.bx.kept hk (fun e => (hO s e).2.1 rfl), h.no⟩
 rcases hD x hx with hd | hd
 ·exact (H.rs hl x hd).same hs.2
 ·exact (Apt.new H.al.has hl hd).same hs.2
theorem rowD_none : ∀ x, ¬ rowD none x := fun x ⟨_, e, _⟩ => by cases e
end
end Go.Proofs.YtmboibipabkhaaaGreat
