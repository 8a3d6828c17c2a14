/-
  The document's Right and Same.
-/
import Derived.Test.YteiiiapjloincaaCon6
namespace Go.Proofs.Yteiiiapjloincaa
open Go.ChangeShapes Go.WideShapes Go.ChangeAt Go.RowKit Go.Deep
set_option linter.unusedVariables false
set_option maxRecDepth 20000

theorem take_split (l : List M.R) (k : Nat) (h : k < l.length) : l = l.take k ++ (l[k] :: l.drop (k + 1)) := by rw [List.getElem_cons_drop, List.take_append_drop]
theorem ok_fail {N : Int} {l : List M.R} (k : Nat) (hk : k < l.length) (h : ¬ (M.endOf (-1) (l.take k) < l[k].p ∧ 0 ≤ l[k].p ∧ 1 ≤ l[k].n ∧ l[k].p + l[k].n ≤ N)) : M.okB (-1) N l = false := by
  rw [← Bool.not_eq_true, M.okB_iff]
  intro hok
  rw [take_split l k hk, M.Ok_append] at hok
  exact h ⟨hok.2.1, hok.2.2.1, hok.2.2.2.1, hok.2.2.2.2.1⟩
theorem ok_step {N : Int} {l : List M.R} (k : Nat) (hk : k < l.length) (h : M.Ok (-1) N (l.take k)) (h1 : M.endOf (-1) (l.take k) < l[k].p) (h2 : 0 ≤ l[k].p) (h3 : 1 ≤ l[k].n) (h4 : l[k].p + l[k].n ≤ N) :
    M.Ok (-1) N (l.take (k + 1)) ∧ M.endOf (-1) (l.take (k + 1)) = l[k].p + l[k].n := by
  rw [List.take_succ_eq_append_getElem hk]
  exact ⟨(M.Ok_append _ _ _).2 ⟨h, h1, h2, h3, h4, trivial⟩, by rw [M.endOf_append]; rfl⟩

theorem same_no {l m : List M.R} (k : Nat) (hk : k < l.length) (hm : k < m.length) (h : ¬ (l[k].p = m[k].p ∧ l[k].n = m[k].n)) : decide (l = m) = false := by
  simp only [decide_eq_false_iff_not]
  rintro rfl
  exact h ⟨rfl, rfl⟩
theorem same_yes {l m : List M.R} (h : l.length = m.length) (hall : ∀ k (hk : k < l.length) (hm : k < m.length), l[k] = m[k]) : decide (l = m) = true := by
  simp only [decide_eq_true_eq]
  exact List.ext_getElem h hall

set_option maxHeartbeats 4000000 in
theorem same_any (w : World) (A A' : Option Addr) (l m : List M.R) (z c z' c' : Nat) (hz : z = l.length) (hz' : z' = m.length) (hA : Runs w A l) (hA' : Runs w A' m) (hl : z ≤ 9223372036854775807) :
    Calls Try.prog 19 #[.slice A z c, .slice A' z' c'] w fun e w' => e = .returned (.bool (decide (l = m))) ∧ Below w.heap.size w w' := by
  have HZ := Lib.hid hz
  have HZ' := Lib.hid hz'
  have HA := Lib.hid hA
  have HA' := Lib.hid hA'
  clear hz hA hz' hA'
  go_enter Try.func19, Try.ntmps19
  by_cases hzz : z = z'
  · have HE := Lib.hid (show l.length = m.length by rw [← HZ.out, ← HZ'.out]; exact hzz)
    subst hzz
    go_wp2_with fail
    go_loopw [5] (fun i wr => ∃ (k : Nat), k ≤ z ∧ i = .int .i64 (k : Int) ∧ (∀ j (hk : j < l.length) (hm : j < m.length), j < k → l[j] = m[j]) ∧ Below w.heap.size w wr) (fun i _ => z - (intOf i).toNat)
    case atStart => exact ⟨0, by omega, rfl, fun j _ _ h => by omega, Below.refl _ _⟩
    case round =>
      obtain ⟨k, hk, rfl, hg, hb⟩ := hrel
      have HB := Lib.hid hb
      have HG := Lib.hid hg
      clear hb hg
      by_cases hlt : k < z
      · have hkl : k < l.length := by have := HZ.out; omega
        have hkm : k < m.length := by have := HE.out; omega
        obtain ⟨bl, o, rfl, hc⟩ := HA.out (by omega)
        obtain ⟨bl', o', rfl, hc'⟩ := HA'.out (by omega)
        have c0 := (HB.out.cell (lt_of_cell (hc k hkl).1)).trans (hc k hkl).1
        have c1 := (HB.out.cell (lt_of_cell (hc k hkl).2)).trans (hc k hkl).2
        have d0 := (HB.out.cell (lt_of_cell (hc' k hkm).1)).trans (hc' k hkm).1
        have d1 := (HB.out.cell (lt_of_cell (hc' k hkm).2)).trans (hc' k hkm).2
        have bad := same_no (l := l) (m := m) k hkl hkm
        have nxt : l[k].p = m[k].p → l[k].n = m[k].n → ∀ j (hk : j < l.length) (hm : j < m.length), j < k + 1 → l[j] = m[j] := fun h1 h2 j hj hj' hjk => by
          rcases Nat.lt_or_ge j k with h3 | h3
          · exact HG.out j hj hj' h3
          · obtain rfl : j = k := by omega
            revert h1 h2
            cases l[j]; cases m[j]
            intro h1 h2
            simp only at h1 h2
            rw [h1, h2]
        obtain ⟨p, hp⟩ : ∃ p, p = l[k].p := ⟨_, rfl⟩
        obtain ⟨q, hq⟩ : ∃ q, q = l[k].n := ⟨_, rfl⟩
        obtain ⟨p', hp'⟩ : ∃ p', p' = m[k].p := ⟨_, rfl⟩
        obtain ⟨q', hq'⟩ : ∃ q', q' = m[k].n := ⟨_, rfl⟩
        rw [← hp] at c0 bad nxt
        rw [← hq] at c1 bad nxt
        rw [← hp'] at d0 bad nxt
        rw [← hq'] at d1 bad nxt
        have BAD := Lib.hid bad
        have NXT := Lib.hid nxt
        clear hc hc' hk hp hq hp' hq' bad nxt hkl hkm
        by_cases t1 : p = p'
        · by_cases t2 : q = q'
          · subst t1 t2
            go_wp2_with fail
            go_quiet (fail)
            go_wp2_with fail
            go_roundw
            case rel => exact ⟨k + 1, by omega, by go_num, (by have h := NXT.out; exact h trivial trivial), below_drewN' HB.out _⟩
            case measure => simp [intOf]; omega
          · go_wp2_with fail
            go_quiet (fail)
            go_wp2_with fail
            go_ret
            exact ⟨retB (BAD.out (fun h => t2 h.2)).symm, below_drewN' HB.out _⟩
        · go_wp2_with fail
          go_quiet (fail)
          go_wp2_with fail
          go_ret
          exact ⟨retB (BAD.out (fun h => t1 h.1)).symm, below_drewN' HB.out _⟩
      · go_wp2_with fail
        go_ret
        exact ⟨retB (same_yes HE.out (fun j h1 h2 => HG.out j h1 h2 (by have := HZ.out; omega))).symm, HB.out⟩
  · have hne : ¬ ((z : Int) = (z' : Int)) := by omega
    have HE := Lib.hid (show decide (l = m) = false by
      simp only [decide_eq_false_iff_not]
      rintro rfl
      exact hzz (by rw [HZ.out, HZ'.out]))
    go_wp2_with fail
    go_ret
    exact ⟨retB HE.out.symm, Below.refl _ _⟩
end Go.Proofs.Yteiiiapjloincaa
