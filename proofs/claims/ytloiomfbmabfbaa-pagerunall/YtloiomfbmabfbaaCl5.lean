/-
  slices.Clone of runs.
-/
import Derived.Test.YtloiomfbmabfbaaBlk5
namespace Go.Proofs.Ytloiomfbmabfbaa
open Go.ChangeShapes Go.WideShapes Go.ChangeAt Go.RowKit Go.Deep
set_option linter.unusedVariables false
set_option maxRecDepth 20000

/-- A list of runs of one's own: none, or a block. -/
def Mine (w : World) (B : Nat) (A : Option Addr) (l : List M.R) (c : Nat) : Prop :=
  (A = none ∧ l = [] ∧ c = 0) ∨ ∃ g cs, A = some ⟨g, 0, none⟩ ∧ B ≤ g ∧ Blk w g cs ∧ l.length ≤ c ∧ c ≤ maxLen ∧ cs.length = c * 2 ∧ cs.take (l.length * 2) = rc l
theorem Mine.runs {w : World} {B c : Nat} {A : Option Addr} {l : List M.R} (h : Mine w B A l c) : Runs w A l := by
  rcases h with ⟨rfl, rfl, _⟩ | ⟨g, cs, rfl, _, hb, _, _, _, hl⟩
  · exact Runs.nil
  · exact hb.runs hl
theorem mine_of {w : World} {B n c g : Nat} {l : List M.R} (hn : n = l.length) (h : w.ownsRow B 51 2 (.slice (some ⟨g, 0, none⟩) n c) n (rc l)) : Mine w B (some ⟨g, 0, none⟩) l c := by
  rcases h.2 with ⟨h, _⟩ | ⟨g', cap, cur, e, hb, hg, h1, h2, h3, h4⟩
  · cases h
  · injection e with e1 e2 e3
    injection e1 with e1
    injection e1 with e1
    subst e1 e3 hn
    exact .inr ⟨g, cur.toList, rfl, hb, by unfold Blk; rw [Array.toArray_toList]; exact hg, h1, h2, by simpa using h3, h4⟩

theorem only_below2 {w w' : World} {o : Obj} {c : Nat} (h : (w.alloc o).grownBy w' (Value.slice (some ⟨w.heap.size, 0, none⟩) 0 c).ownBlock) : Below w.heap.size w w' :=
  ⟨h.os, h.tape, h.output, Nat.le_trans (le_alloc w o) h.size, fun i hi => (h.block i (Nat.lt_of_lt_of_le hi (le_alloc w o)) (fun e => by simp [Value.ownBlock] at e; omega)).trans (Below.heap_alloc w o i hi)⟩

set_option maxHeartbeats 1000000 in
theorem clone_any (w : World) (A : Option Addr) (l : List M.R) (z c : Nat) (hz : z = l.length) (hA : Runs w A l) (hl : z ≤ 4000000000) :
    Calls Try.prog 29 #[.slice A z c] w fun e w' => ∃ A' c', e = .returned (.slice A' z c') ∧ Mine w' w.heap.size A' l c' ∧ Below w.heap.size w w' := by
  obtain ⟨i, hi, hi0, hi1, hi2⟩ := info36
  have HI := Lib.hid (And.intro hi (And.intro hi0 (And.intro hi1 hi2)))
  have HZ := Lib.hid hz
  have HA := Lib.hid hA
  clear hi hi0 hi1 hi2 hz hA
  have eqn := fun (W : World) => Lib.run_eql_slice_nil (P := Try.prog) W 26 51 A z c 0 0 Try.underlying26
  go_enter Try.func29, Try.ntmps29
  cases A with
  | none =>
    have h0 : z = 0 := by
      rcases Nat.eq_zero_or_pos z with h | h
      · exact h
      · obtain ⟨bl, o, e, _⟩ := HA.out (by rw [← HZ.out]; exact h)
        cases e
    subst h0
    have el : l = [] := List.eq_nil_of_length_eq_zero HZ.out.symm
    go_wp2_with fail
    go_ret
    exact ⟨none, 0, rfl, .inl ⟨rfl, el, rfl⟩, Below.refl _ _⟩
  | some ad =>
    by_cases h0 : z = 0
    · have ap := fun (W : World) (ty : TypeId) (g : Nat) => run_append0 W ty (some ⟨g, 0, none⟩) 0 0 (Nat.le_refl _) (some ad) c
      subst h0
      have el : l = [] := List.eq_nil_of_length_eq_zero HZ.out.symm
      go_wp2_with fail
      go_ret
      exact ⟨_, 0, rfl, .inr ⟨w.heap.size, [], rfl, Nat.le_refl _, Blk.new w [], by rw [el]; exact Nat.le_refl _, by unfold maxLen; omega, rfl, by rw [el]; rfl⟩, (Below.refl _ _).alloc (Nat.le_refl _) _⟩
    · have own0 : (w.alloc (.cells #[] 51)).ownsRow w.heap.size 51 2 (.slice (some ⟨w.heap.size, 0, none⟩) 0 0) 0 [] := ⟨rfl, .inr ⟨_, 0, #[], rfl, Nat.le_refl _, Blk.new w [], Nat.le_refl _, by unfold maxLen; omega, rfl, rfl⟩⟩
      obtain ⟨bl, o, e, hc⟩ := HA.out (by rw [← HZ.out]; omega)
      have hcl := runs_cells hc
      injection e with e
      have hnews : ∀ j u, (rc l)[j]? = some u → (w.alloc (.cells #[] 51)).cell? (ad.add j) = some u := fun j u hu => by
        rw [e, Addr.add_lit]
        exact Lib.cell?_alloc_some _ (hcl j u hu)
      have hrl : (rc l).length = z * 2 := by rw [rc_length, HZ.out]
      have OWN := Lib.hid own0
      have HNW := Lib.hid hnews
      have HRL := Lib.hid hrl
      have eqn2 := eqn w
      clear own0 hnews hrl hc hcl e eqn
      go_wp2_with (at_builtin; refine wpList_append_lies _ rfl _ _ 26 rfl w.heap.size 51 i (.agg #[.int .i64 0, .int .i64 0]) 2 16 Try.underlying26 HI.out.1 HI.out.2.1 HI.out.2.2.1 HI.out.2.2.2 rfl (by decide) (.slice (some ⟨w.heap.size, 0, none⟩) 0 0) 0 [] rfl OWN.out ad z c (rc l) rfl HRL.out HNW.out (rc_one l) (by omega) (by unfold maxLen; omega) (by omega) (by simp) _ rfl ?_; intro g1 c1 w4 hrow hgr hat hlt)
      go_ret
      refine ⟨_, c1, rfl, mine_of HZ.out (by simpa using hrow), ?_⟩
      exact only_below2 hgr
end Go.Proofs.Ytloiomfbmabfbaa
