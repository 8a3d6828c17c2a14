/-
  What follows for the laws: what was taken can be given back; pages given back in two parts.
-/
import Derived.Test.YtloiomfbmabfbaaGive6
namespace Go.Proofs.Ytloiomfbmabfbaa
open Go.ChangeShapes Go.WideShapes Go.ChangeAt Go.RowKit Go.Deep
set_option linter.unusedVariables false
set_option maxRecDepth 20000

theorem taken {l : List M.R} {n : Int} (h : takeB l n = true) : ∃ (k : Nat) (hk : k < l.length), M.best n l = k ∧ 1 ≤ n ∧ n ≤ (l.getD k ⟨0, 0⟩).n ∧ takeP l n = (l.getD k ⟨0, 0⟩).p ∧ takeL l n = M.left l k n := by
  have hb := M.best_is n l
  have h0 : 0 ≤ M.best n l := by unfold takeB at h; simpa using h
  obtain ⟨k, hk, e, h1, h2, _⟩ := hb.pos h0
  refine ⟨k, hk, e, h1, by rw [M.getD_at l k hk]; exact h2, by rw [takeP, if_pos h, e]; rfl, by rw [takeL, if_pos h, e]; rfl⟩
theorem take_none {l : List M.R} {n : Int} (h : takeB l n = false) : takeL l n = [] ∧ takeP l n = 0 ∧ (n < 1 ∨ ∀ r ∈ l, r.n < n) := by
  refine ⟨by rw [takeL, h]; rfl, by rw [takeP, h]; rfl, ?_⟩
  have hb := M.best_is n l
  refine hb.neg ?_
  unfold takeB at h
  simp at h
  omega
theorem takeL_length {l : List M.R} {n : Int} : (takeL l n).length ≤ l.length := by
  by_cases h : takeB l n = true
  · obtain ⟨k, hk, _, _, _, _, e⟩ := taken h
    rw [e]
    exact M.left_length hk
  · rw [(take_none (by simpa using h)).1]
    simp
theorem giveL_length {l : List M.R} {N p n : Int} : (giveL l N p n).length ≤ l.length + 1 := by
  unfold giveL
  split
  · exact M.give_length
  · simp
/-- What is given back is right, and has these pages too. -/
theorem given {l : List M.R} {N p n : Int} (hok : M.Ok (-1) 1073741824 l) (hN : N ≤ 1073741824) (h : giveB l N p n = true) :
    0 ≤ p ∧ 1 ≤ n ∧ p + n ≤ N ∧ M.has l p n = false ∧ M.Ok (-1) 1073741824 (giveL l N p n) ∧ M.total (giveL l N p n) = M.total l + n ∧ ∀ x, M.Pg (giveL l N p n) x ↔ M.Pg l x ∨ (p ≤ x ∧ x < p + n) := by
  have h' := h
  unfold giveB at h
  simp only [Bool.and_eq_true, Bool.not_eq_true'] at h
  obtain ⟨hf, hh⟩ := h
  obtain ⟨h1, h2, h3⟩ := (fitsB_iff _ _ _).1 hf
  have := M.give_ok hok h1 h2 (by omega : p + n ≤ 1073741824) hh
  rw [giveL, if_pos h']
  exact ⟨h1, h2, h3, hh, this⟩
theorem giveB_of {l : List M.R} {N p n : Int} (h1 : 0 ≤ p) (h2 : 1 ≤ n) (h3 : p + n ≤ N) : giveB l N p n = !M.has l p n := by
  unfold giveB
  rw [(fitsB_iff _ _ _).2 ⟨h1, h2, h3⟩, Bool.true_and]

theorem back_facts {l : List M.R} {n : Int} (hok : M.Ok (-1) 1073741824 l) (h : takeB l n = true) :
    M.Ok (-1) 1073741824 (takeL l n) ∧ M.okB (-1) 1073741824 (takeL l n) = true ∧ M.total (takeL l n) = M.total l - n ∧ M.has (takeL l n) (takeP l n) n = false ∧ M.has l (takeP l n) n = true ∧
    giveB (takeL l n) 1073741824 (takeP l n) n = true ∧ giveL (takeL l n) 1073741824 (takeP l n) n = l ∧ 0 ≤ takeP l n ∧ takeP l n ≤ 1073741824 ∧ 1 ≤ n ∧ n ≤ 1073741824 := by
  obtain ⟨k, hk, _, h1, h2, eP, eL⟩ := taken h
  have hm := hok.mem _ (M.getD_mem l k hk)
  have hl := M.left_ok hok k hk n h1 h2
  rw [← eL, ← eP] at hl
  rw [← eP] at hm
  have hno : M.has (takeL l n) (takeP l n) n = false := (M.has_not hl.1 _ _ h1).2 (fun x hx1 hx2 hx3 => hl.2.2.2 x hx3 ⟨hx1, hx2⟩)
  have hyes : M.has l (takeP l n) n = true := (M.has_pg hok _ _ h1).2 ⟨takeP l n, by omega, by omega, (hl.2.2.1 _).2 (.inr ⟨by omega, by omega⟩)⟩
  have hgb : giveB (takeL l n) 1073741824 (takeP l n) n = true := by rw [giveB_of hm.2.1 h1 (by omega), hno]; rfl
  have hg := given hl.1 (Int.le_refl _) hgb
  refine ⟨hl.1, (M.okB_iff _ _ _).2 hl.1, hl.2.1, hno, hyes, hgb, ?_, hm.2.1, by omega, h1, by omega⟩
  exact M.uniq _ _ _ _ _ _ hg.2.2.2.2.1 hok (fun x => by rw [hg.2.2.2.2.2.2 x, hl.2.2.1 x])

theorem two_facts {l : List M.R} {p n k : Int} (hok : M.Ok (-1) 1073741824 l) (hp : 0 ≤ p) (hk : 1 ≤ k) (hkn : k < n) (hN : p + n ≤ 1073741824) :
    (giveB l 1073741824 (p + k) (n - k) = false → giveB l 1073741824 p n = false) ∧
    (giveB l 1073741824 (p + k) (n - k) = true → giveB (giveL l 1073741824 (p + k) (n - k)) 1073741824 p k = giveB l 1073741824 p n) ∧
    (giveB l 1073741824 (p + k) (n - k) = true → giveB l 1073741824 p n = true → giveL l 1073741824 p n = giveL (giveL l 1073741824 (p + k) (n - k)) 1073741824 p k ∧ M.total (giveL l 1073741824 p n) = M.total l + n) := by
  rw [giveB_of (l := l) (by omega) (by omega) (by omega : p + k + (n - k) ≤ 1073741824), giveB_of (l := l) hp (by omega) hN, giveB_of hp hk (by omega)]
  have e1 : M.has l p n = false → M.has l (p + k) (n - k) = false := fun h => by
    rw [M.has_not hok _ _ (by omega)] at h ⊢
    intro x h1 h2
    exact h x (by omega) (by omega)
  refine ⟨fun h => ?_, fun h => ?_, fun h h' => ?_⟩
  · rcases Bool.eq_false_or_eq_true (M.has l p n) with h1 | h1
    · rw [h1]; rfl
    · rw [e1 h1] at h; cases h
  · have hgb : giveB l 1073741824 (p + k) (n - k) = true := by rw [giveB_of (by omega) (by omega) (by omega)]; exact h
    have hg := given hok (Int.le_refl _) hgb
    have hh : M.has l (p + k) (n - k) = false := hg.2.2.2.1
    congr 1
    rw [Bool.eq_iff_iff, M.has_pg hg.2.2.2.2.1 _ _ hk, M.has_pg hok _ _ (by omega)]
    rw [M.has_not hok _ _ (by omega)] at hh
    constructor
    · rintro ⟨x, h1, h2, h3⟩
      rcases (hg.2.2.2.2.2.2 x).1 h3 with h4 | h4
      · exact ⟨x, h1, by omega, h4⟩
      · omega
    · rintro ⟨x, h1, h2, h3⟩
      rcases Int.lt_or_le x (p + k) with h4 | h4
      · exact ⟨x, h1, h4, (hg.2.2.2.2.2.2 x).2 (.inl h3)⟩
      · exact absurd h3 (hh x h4 (by omega))
  · have hgb : giveB l 1073741824 (p + k) (n - k) = true := by rw [giveB_of (by omega) (by omega) (by omega)]; exact h
    have hga : giveB l 1073741824 p n = true := by rw [giveB_of hp (by omega) hN]; exact h'
    have hg := given hok (Int.le_refl _) hgb
    have ha := given hok (Int.le_refl _) hga
    have hh : M.has l p n = false := ha.2.2.2.1
    have hbk : M.has (giveL l 1073741824 (p + k) (n - k)) p k = false := by
      rw [M.has_not hok _ _ (by omega)] at hh
      rw [M.has_not hg.2.2.2.2.1 _ _ hk]
      intro x h1 h2 h3
      rcases (hg.2.2.2.2.2.2 x).1 h3 with h4 | h4
      · exact hh x h1 (by omega) h4
      · omega
    have hgc : giveB (giveL l 1073741824 (p + k) (n - k)) 1073741824 p k = true := by rw [giveB_of hp hk (by omega), hbk]; rfl
    have hc := given hg.2.2.2.2.1 (Int.le_refl _) hgc
    refine ⟨M.uniq _ _ _ _ _ _ ha.2.2.2.2.1 hc.2.2.2.2.1 (fun x => ?_), ha.2.2.2.2.2.1⟩
    rw [ha.2.2.2.2.2.2 x, hc.2.2.2.2.2.2 x, hg.2.2.2.2.2.2 x]
    constructor
    · rintro (h1 | h1)
      · exact .inl (.inl h1)
      · by_cases h2 : x < p + k
        · exact .inr (by omega)
        · exact .inl (.inr (by omega))
    · rintro ((h1 | h1) | h1)
      · exact .inl h1
      · exact .inr (by omega)
      · exact .inr (by omega)
end Go.Proofs.Ytloiomfbmabfbaa
