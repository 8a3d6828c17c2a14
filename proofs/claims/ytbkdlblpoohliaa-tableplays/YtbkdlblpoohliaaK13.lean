/-
  A table of numbers in which nothing was dropped; what a handle is of.
-/
import Derived.Test.YtbkdlblpoohliaaA13
namespace Go.Proofs.Ytbkdlblpoohliaa.M
set_option linter.unusedVariables false

def fresh (m : Nat) : Tt Int := ⟨(List.range m).map (fun (i : Nat) => ⟨true, 0, (i : Int)⟩), []⟩
theorem fresh_get (m i : Nat) : (fresh m).s[i]? = if i < m then some ⟨true, 0, (i : Int)⟩ else none := by
  unfold fresh
  by_cases h : i < m
  · rw [if_pos h]; simp [h]
  · rw [if_neg h]; simp [h]
theorem fresh_len (m : Nat) : (fresh m).s.length = m := by simp [fresh]
theorem fresh_zero : fresh 0 = Tt.new := rfl
theorem fresh_at (m : Nat) : (fresh m).at' = m := by rw [at_nil rfl, fresh_len]
theorem fresh_gn (m : Nat) : (fresh m).gn = 0 := gn_nil rfl
theorem fresh_put (m : Nat) : (fresh m).put (m : Int) = fresh (m + 1) := by
  unfold Tt.put putAt
  rw [fresh_at, fresh_gn, if_neg (by rw [fresh_len]; omega)]
  unfold fresh
  rw [List.range_succ, List.map_append]
  rfl
/-- What a handle is of. -/
theorem liv_iff {V : Type} {K : Int} {S : Tt V} {p i : Nat} (hb : huB p = true) : S.liv K p = some i ↔ i = huS p ∧ ∃ x, S.s[i]? = some x ∧ x.u = true ∧ (huK p : Int) = K ∧ x.g = huG p := by
  constructor
  · intro h
    obtain ⟨_, h1, h2⟩ := liv_some h
    exact ⟨h1, h2⟩
  · rintro ⟨rfl, x, hx, hu, hk, hg⟩
    exact liv_of hb hx hu hk hg
theorem liv_none_of {V : Type} {K : Int} {S : Tt V} {p : Nat} (h : ∀ i, S.liv K p ≠ some i) : S.liv K p = none := by
  cases e : S.liv K p with
  | none => rfl
  | some i => exact absurd e (h i)
theorem fresh_no {m p : Nat} (hb : huB p = true) (h : ¬ (huK p = 2 ∧ huS p < m ∧ huG p = 0)) : (fresh m).liv 2 p = none := by
  refine liv_none_of (fun i hi => ?_)
  obtain ⟨rfl, x, hx, hu, hk, hg⟩ := (liv_iff hb).1 hi
  rw [fresh_get] at hx
  split at hx
  · next hl => cases hx; exact h ⟨by omega, hl, hg.symm⟩
  · cases hx
theorem fresh_yes {m p : Nat} (hb : huB p = true) (h : huK p = 2 ∧ huS p < m ∧ huG p = 0) : (fresh m).liv 2 p = some (huS p) ∧ (fresh m).get 2 p = some (huS p : Int) := by
  have hx : (fresh m).s[huS p]? = some ⟨true, 0, (huS p : Int)⟩ := by rw [fresh_get, if_pos h.2.1]
  have := liv_of (K := 2) hb hx rfl (by omega) h.2.2.symm
  refine ⟨this, ?_⟩
  unfold Tt.get
  rw [this]
  simp only [hx]
  rfl
end Go.Proofs.Ytbkdlblpoohliaa.M
