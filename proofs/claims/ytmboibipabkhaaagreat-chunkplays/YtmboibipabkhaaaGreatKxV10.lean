/-
  Get of whatever is asked for.
-/
import Derived.Test.YtmboibipabkhaaaGreatKxArg10
namespace Go.Proofs.YtmboibipabkhaaaGreat
open Go.ChangeShapes Go.WideShapes Go.ChangeAt Go.RowKit Go.Deep
set_option linter.unusedVariables false
set_option maxRecDepth 20000
def gtE (P : Nat) (Z : St) (pages kind : Int) : Int := if getB pages kind = true then (getF P Z pages).e else 1
def gtP (P : Nat) (Z : St) (pages kind : Int) : Int := if getB pages kind = true then getP P Z pages else 0
def gtN (P : Nat) (Z : St) (pages kind : Int) : Int := if getB pages kind = true then getN P Z pages else 0
def St.gt (P : Nat) (Z : St) (pages kind : Int) (o : Nat) : St := if getB pages kind = true then Z.get P pages kind o else Z
section
variable {w0 w : World} {s a b c P : Nat} {Z : St} {Q D : Nat → Prop} {k : Nat} {G : List M.R}
theorem cgetA_any (h : Chk D w0 w s a b c P Z Q k) (hk : k ≤ 80000) (hu : Z.u ≤ 900000000000) (hi : Inv P Z G) (pages kind : Int) (o : Nat) (ho : o < 18446744073709551616) :
  Calls Tryz.prog 8 #[.pointer (some ⟨s, 0, none⟩), .int .i64 pages, .int .i64 kind, .int .u64 (o : Int)] w fun e w' => e = .returned (.tuple #[.int .i64 (gtP P Z pages kind), .int .i64 (gtN P Z pages kind), .int .i64 (gtE P Z pages kind)]) ∧ Chk D w0 w' s a b c P (Z.gt P pages kind o) (Wid Q w w') (k + 30) ∧ Kept w w' Q := by
 unfold gtP gtN gtE St.gt
 by_cases hb : getB pages kind = true
 ·obtain ⟨h1, h2, h3, h4⟩ := (getB_iff _ _).1 hb
  rw [if_pos hb, if_pos hb, if_pos hb, if_pos hb]
  exact cget_any h hk hu hi pages kind o h1 h2 h3 h4 ho
 ·rw [if_neg hb, if_neg hb, if_neg hb, if_neg hb]
  refine (cget_bad w _ pages kind (o : Int) (by simpa using hb)).mono ?_
  rintro e w' ⟨rfl, hb'⟩
  have hk' := Kept.of_below hb' Q
  exact ⟨rfl, (h.next (h.st.below hb') hk' (fun x e => .inl e)).more (by omega), hk'⟩
theorem Inv.gt (h : Inv P Z G) (hP : P ≤ 1048576) (pages kind : Int) (o : Nat) (ho : o < 18446744073709551616) :
  (gtE P Z pages kind = 0 ∧ Inv P (Z.gt P pages kind o) (⟨gtP P Z pages kind, gtN P Z pages kind⟩ :: G) ∧ Stands (Z.gt P pages kind o).f (gtP P Z pages kind).toNat (gtN P Z pages kind).toNat kind.toNat o 0 ∧ pages ≤ gtN P Z pages kind ∧ 0 ≤ kind ∧ (Z.gt P pages kind o).u ≤ Z.u + 1) ∨
  ((gtE P Z pages kind = 1 ∨ gtE P Z pages kind = 4) ∧ gtP P Z pages kind = 0 ∧ gtN P Z pages kind = 0 ∧ Inv P (Z.gt P pages kind o) G ∧ (Z.gt P pages kind o).u ≤ Z.u + 1) := by
 unfold gtP gtN gtE St.gt
 by_cases hb : getB pages kind = true
 ·obtain ⟨h1, h2, h3, h4⟩ := (getB_iff _ _).1 hb
  rw [if_pos hb, if_pos hb, if_pos hb, if_pos hb]
  by_cases he : (getF P Z pages).e = 0
  ·have g := h.get_ok hP h1 h2 h3 h4 ho he
   exact .inl ⟨he, g.1, g.2.1, g.2.2.1, h3, by rw [g.2.2.2.2]; exact Nat.le_refl _⟩
  ·have g := h.get_no (kind := kind) (o := o) h1 h2 he
   exact .inr ⟨.inr g.1, g.2.1, g.2.2.1, g.2.2.2.1, by rw [g.2.2.2.2.2.1]; omega⟩
 ·rw [if_neg hb, if_neg hb, if_neg hb, if_neg hb]
  exact .inr ⟨.inl rfl, rfl, rfl, h, by omega⟩
end
end Go.Proofs.YtmboibipabkhaaaGreat
