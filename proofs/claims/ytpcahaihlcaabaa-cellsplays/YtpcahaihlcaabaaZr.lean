/-
  What Zero's closure does to one page's bytes.
-/
import Derived.Test.YtpcahaihlcaabaaLd
namespace Go.Proofs.Ytpcahaihlcaabaa
open Go.ChangeShapes Go.WideShapes Go.ChangeAt Go.RowKit
set_option linter.unusedVariables false
set_option maxRecDepth 20000

theorem zero5 (w : World) : (zeroValue 5).run Try.prog w = .ok (.int .u8 0) w := by kernel_rfl
theorem clear_own (W : World) (g o n c : Nat) (L : List UInt8) (ho : Own W g L) (h : o + n ≤ L.length) (h0 : 0 < n) (ty : TypeId) :
    (Builtin.clear_ #[53] ty #[.slice (some ⟨g, o, none⟩) n c]).run Try.prog W = .ok (.tuple #[]) (W.setCells g o (u8s (List.replicate n 0))) := by
  have := Lib.run_clear_slice (P := Try.prog) W 53 5 ty (.int .u8 0) Try.underlying53 zero5 rfl rfl g o n c h0 (fun j hj => by rw [ho.1 (o + j) (by omega)]; rfl) (fun j hj => ho.2 (o + j) (by omega))
  rw [this]
  simp [u8s]

theorem Mine.setG_same {s m : Nat} {G : Pgs} {k g : Nat} {l l' : List UInt8} (h : G k = some (g, l)) (b : Nat) : Mine s m (setG G k (g, l')) b ↔ Mine s m G b := by
  constructor
  · intro hb
    rcases hb.of_setG with hb | rfl
    · exact hb
    · exact Or.inr (Or.inr ⟨k, l, h⟩)
  · rintro (hb | hb | ⟨j, lj, e⟩)
    · exact Or.inl hb
    · exact Or.inr (Or.inl hb)
    · by_cases ej : j = k
      · subst ej
        rw [h] at e
        injection e with e
        injection e with e _
        subst e
        exact Or.inr (Or.inr ⟨j, l', Go.Proofs.Ytpcahaihlcaabaa.setG_same G j _⟩)
      · exact Or.inr (Or.inr ⟨j, lj, by rw [setG_other G _ ej]; exact e⟩)

end Go.Proofs.Ytpcahaihlcaabaa
