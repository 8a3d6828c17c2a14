/-
  What the laws of layer 9 go by: no program in sight.
-/
import Derived.Test.YtmboibipabkhaaaGreatKxK9
namespace Go.Proofs.YtmboibipabkhaaaGreat.M
theorem popF_self {f : Ky} {c : Int} : popF f c c = (f c).dropLast := upd_self _ _ _
theorem popF_ne {f : Ky} {c d : Int} (h : d ≠ c) : popF f c d = f d := upd_ne _ _ _ _ h
theorem pop_snoc {f : Ky} {c x : Int} {l : List Int} (h : f c = l ++ [x]) : popV f c = x ∧ popB f c = true ∧ popF f c c = l := by
 refine ⟨?_, ?_, ?_⟩
 ·unfold popV; rw [h]; simp
 ·unfold popB; rw [h]; simp
 ·rw [popF_self, h]; simp
theorem pop_nil {f : Ky} {c : Int} (h : f c = []) : popV f c = 0 ∧ popB f c = false := by
 refine ⟨?_, ?_⟩
 ·unfold popV; rw [h]; rfl
 ·unfold popB; rw [h]; rfl
end Go.Proofs.YtmboibipabkhaaaGreat.M
