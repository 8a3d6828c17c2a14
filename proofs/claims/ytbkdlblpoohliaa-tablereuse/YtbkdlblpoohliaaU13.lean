/-
  Slots that are freed, and used again.
-/
import Derived.Test.YtbkdlblpoohliaaK13
namespace Go.Proofs.Ytbkdlblpoohliaa.M
set_option linter.unusedVariables false

/-- A slot, once some were freed ('fl') and those of 'r' still are. -/
def el13 (fl r : List Nat) (x : Nat) : Te Int := if x ∈ r then ⟨false, 1, 0⟩ else if x ∈ fl then ⟨true, 1, 9⟩ else ⟨true, 0, (x : Int)⟩
def mid13 (k : Nat) (fl : List Nat) (i : Nat) : Tt Int := ⟨(List.range k).map (el13 fl (fl.take i)), fl.take i⟩
def usd13 (k : Nat) (fl : List Nat) : Tt Int := ⟨(List.range k).map (el13 fl fl), fl⟩
theorem mid_all (k : Nat) (fl : List Nat) : mid13 k fl fl.length = usd13 k fl := by unfold mid13 usd13; rw [List.take_length]
theorem usd_nil (k : Nat) : usd13 k [] = fresh k := by
  unfold usd13 fresh el13
  simp
theorem map_get (k x : Nat) (g : Nat → Te Int) : ((List.range k).map g)[x]? = if x < k then some (g x) else none := by
  by_cases h : x < k
  · rw [if_pos h]; simp [h]
  · rw [if_neg h]; simp [h]
theorem usd_get (k x : Nat) (fl : List Nat) : (usd13 k fl).s[x]? = if x < k then some (el13 fl fl x) else none := map_get _ _ _
theorem usd_drop {k j : Nat} {fl : List Nat} (hj : j < k) (hn : j ∉ fl) : (usd13 k fl).drop 0 j = usd13 k (fl ++ [j]) := by
  have he : (usd13 k fl).s[j]? = some ⟨true, 0, (j : Int)⟩ := by rw [usd_get, if_pos hj, el13, if_neg hn, if_neg hn]
  unfold Tt.drop
  rw [he]
  show (⟨((List.range k).map (el13 fl fl)).set j ⟨false, nx 0, 0⟩, fl ++ [j]⟩ : Tt Int) = ⟨(List.range k).map (el13 (fl ++ [j]) (fl ++ [j])), fl ++ [j]⟩
  congr 1
  refine List.ext_getElem? (fun x => ?_)
  rw [List.getElem?_set, map_get, map_get]
  by_cases hx : j = x
  · subst hx
    rw [if_pos rfl, if_pos (by simp; exact hj), if_pos hj, el13, if_pos (by simp)]
    rfl
  · rw [if_neg hx]
    by_cases hk : x < k
    · rw [if_pos hk, if_pos hk]
      unfold el13
      have : x ∈ fl ++ [j] ↔ x ∈ fl := by simp; exact fun e => absurd e.symm hx
      by_cases h : x ∈ fl
      · rw [if_pos h, if_pos (this.2 h)]
      · rw [if_neg h, if_neg h, if_neg (fun e => h (this.1 e)), if_neg (fun e => h (this.1 e))]
    · rw [if_neg hk, if_neg hk]
theorem usd_liv {k j p : Nat} {fl : List Nat} (hj : j < k) (hb : huB p = true) (hK : (huK p : Int) = 1) (hS : huS p = j) (hG : huG p = 0) : (j ∉ fl → (usd13 k fl).liv 1 p = some j) ∧ (j ∈ fl → (usd13 k fl).liv 1 p = none) := by
  subst hS
  refine ⟨fun hn => ?_, fun hn => liv_none_of (fun i hi => ?_)⟩
  · exact liv_of hb (x := ⟨true, 0, (huS p : Int)⟩) (by rw [usd_get, if_pos hj, el13, if_neg hn, if_neg hn]) rfl hK hG.symm
  · obtain ⟨rfl, x, hx, hu, _⟩ := (liv_iff hb).1 hi
    rw [usd_get, if_pos hj, el13, if_pos hn] at hx
    cases hx
    cases hu
theorem mid_at {k i x : Nat} {fl : List Nat} (h : fl[i]? = some x) : (mid13 k fl (i + 1)).at' = x := at_snoc (l := fl.take i) (by show fl.take (i + 1) = _; rw [List.take_add_one, h]; rfl)
theorem not_take {i x : Nat} {fl : List Nat} (h : fl[i]? = some x) (hn : fl.Nodup) : x ∉ fl.take i := fun hx => by
  have e : fl = fl.take i ++ x :: fl.drop (i + 1) := by
    obtain ⟨hi, rfl⟩ := List.getElem?_eq_some_iff.1 h
    rw [List.getElem_cons_drop, List.take_append_drop]
  rw [e] at hn
  exact (List.nodup_append.1 hn).2.2 x hx x (by simp) rfl
theorem mid_gn {k i x : Nat} {fl : List Nat} (h : fl[i]? = some x) (hx : x < k) : (mid13 k fl (i + 1)).gn = 1 := by
  have : (mid13 k fl (i + 1)).s[(mid13 k fl (i + 1)).at']? = some ⟨false, 1, 0⟩ := by
    rw [mid_at h]
    show ((List.range k).map _)[x]? = _
    rw [map_get, if_pos hx, el13, if_pos]
    rw [List.take_add_one, h]
    simp
  exact gn_of this
theorem mid_put {k i x : Nat} {fl : List Nat} (h : fl[i]? = some x) (hx : x < k) (hn : fl.Nodup) : (mid13 k fl (i + 1)).put 9 = mid13 k fl i := by
  have ht : fl.take (i + 1) = fl.take i ++ [x] := by rw [List.take_add_one, h]; rfl
  have hnt := not_take h hn
  unfold Tt.put putAt
  rw [mid_at h, mid_gn h hx, if_pos (by show x < ((List.range k).map _).length; simpa using hx)]
  show (⟨((List.range k).map (el13 fl (fl.take (i + 1)))).set x ⟨true, 1, 9⟩, (fl.take (i + 1)).dropLast⟩ : Tt Int) = ⟨(List.range k).map (el13 fl (fl.take i)), fl.take i⟩
  rw [ht, List.dropLast_concat]
  congr 1
  refine List.ext_getElem? (fun y => ?_)
  rw [List.getElem?_set, map_get, map_get]
  by_cases hy : x = y
  · subst hy
    rw [if_pos rfl, if_pos (by simp; exact hx), if_pos hx, el13, if_neg hnt, if_pos (List.mem_of_getElem? h)]
  · rw [if_neg hy]
    by_cases hk : y < k
    · rw [if_pos hk, if_pos hk]
      unfold el13
      have : y ∈ fl.take i ++ [x] ↔ y ∈ fl.take i := by simp; exact fun e => absurd e.symm hy
      by_cases h : y ∈ fl.take i
      · rw [if_pos h, if_pos (this.2 h)]
      · rw [if_neg h, if_neg (fun e => h (this.1 e))]
    · rw [if_neg hk, if_neg hk]
theorem mid_zero (k : Nat) (fl : List Nat) : (mid13 k fl 0).at' = k ∧ (mid13 k fl 0).gn = 0 ∧ ((mid13 k fl 0).put 9).s.length = k + 1 ∧ ((mid13 k fl 0).put 9).f.length = 0 := by
  have hf : (mid13 k fl 0).f = [] := rfl
  have ha : (mid13 k fl 0).at' = k := by rw [at_nil hf]; simp [mid13]
  refine ⟨ha, gn_nil hf, ?_, ?_⟩
  · unfold Tt.put putAt
    rw [ha, if_neg (by simp [mid13])]
    simp [mid13]
  · simp [Tt.put, hf]
/-- The handles of slots that were never freed. -/
def hl13 (m : Nat) : List Int := (List.range m).map (fun (i : Nat) => hpV 1 (i : Int) 0)
theorem hl_succ (m : Nat) : hl13 (m + 1) = hl13 m ++ [hpV 1 (m : Int) 0] := by simp [hl13, List.range_succ]
theorem hl_at {m j : Nat} (h : j < m) : (hl13 m)[j]? = some (hpV 1 (j : Int) 0) := by simp [hl13, h]
theorem hl_length (m : Nat) : (hl13 m).length = m := by simp [hl13]
end Go.Proofs.Ytbkdlblpoohliaa.M
