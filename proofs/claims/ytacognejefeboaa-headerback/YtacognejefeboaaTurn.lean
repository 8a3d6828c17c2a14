/-
  A space in memory, behind each thing that is done to it: a page laid, bytes of a page written, ticks counted.
-/
import Derived.Test.YtacognejefeboaaMem
namespace Go.Proofs.Ytacognejefeboaa
open Go.ChangeShapes Go.WideShapes Go.ChangeAt Go.RowKit
open Go.Maps (Keyed)
set_option linter.unusedVariables false
set_option maxRecDepth 20000

section
variable {w w' : World} {s m P T : Nat} {G : Pgs}
theorem IsSp.lay (h : IsSp w s m P T G) (k : Nat) (hk : k < P) (e : G k = none) (g c : Nat) (hc : 4096 ≤ c) (l : List UInt8) (hl : l.length = 4096) (ho : Own w g l) (hg : g < w.heap.size) (hn : ¬ Mine s m G g) :
    ∃ w2, (Instr.mapUpdate 65 (.map (some m)) (keyV k) (.slice (some ⟨g, 0, none⟩) 4096 c)).run Try.prog w = .ok () w2 ∧ IsSp w2 s m P T (setG G k (g, l)) ∧ w.grownBy w2 (some m) := by
  obtain ⟨D, hD⟩ := h.map
  have ht := h.top
  have hle := cntOf_le G P
  have hroom : Maps.size D < maxLen := by rw [hD.cnt]; unfold maxLen; omega
  obtain ⟨w2, hrun, hown, hgr⟩ := hD.own.update keyed Try.underlying65 hroom (key_of k (by omega)) (pageEl_mk g c hc)
  have hmap : Maps.IsMap D := hD.own.isMap
  have hkl : WideAt.IsKeyLit (keyL k) := keyed.key (key_of k (by omega))
  have hat := fun zd => (hD.at' k hk zd).trans (by rw [e])
  have hhas := Maps.has_false_of_atKey hat
  have hsz : Maps.size (D.put (keyL k) (.lit (.int .u64 (g : Int)))) = Maps.size D + 1 := by
    rw [Maps.size_put (hD.own.tidy keyed), hhas]
    simp
  have hgs : g ≠ s := fun e => hn (Or.inl e)
  have hgm : g ≠ m := fun e => hn (Or.inr (Or.inl e))
  have hms := h.ne
  have kp : Kept w w2 (fun b => b = m) := (Kept.refl _ _).grown hgr (fun b e _ => by injection e with e; exact e.symm)
  refine ⟨w2, hrun, ⟨kp.cell_some h.c0 (fun e => hms e.symm), kp.cell_some h.c1 (fun e => hms e.symm), kp.cell_some h.c2 (fun e => hms e.symm), (kp.frozen (p := ⟨s, 2, none⟩) h.slt (fun e => hms e.symm)).trans h.f2,
    ⟨_, ⟨exact_size hown, fun j hj zd => ?_, fun kl hkl' => ?_, ?_⟩⟩, h.pos, h.top, fun j gj lj ej => ?_, fun j j' gj lj lj' e1 e2 => ?_⟩, hgr⟩
  · by_cases ej : j = k
    · subst ej
      rw [Maps.atKey_put_same hmap hkl, setG_same]
    · rw [Maps.atKey_put_other (fun e => ej (keyL_inj (by omega) (by omega) e)), setG_other G _ ej]
      exact hD.at' j hj zd
  · by_cases ek : kl = keyL k
    · exact ⟨k, hk, ek⟩
    · rw [Maps.has_put_other ek] at hkl'
      exact hD.keys kl hkl'
  · rw [hsz, hD.cnt, cntOf_setG G k _ P e, if_pos hk]
  · by_cases ej' : j = k
    · subst ej'
      rw [setG_same] at ej
      injection ej with ej
      injection ej with e1 e2
      subst e1 e2
      exact ⟨hk, kp.own ho hg hgm, hl, Nat.lt_of_lt_of_le hg kp.size, hgs, hgm⟩
    · rw [setG_other G _ ej'] at ej
      obtain ⟨h1, h2, h3, h4, h5, h6⟩ := h.page j gj lj ej
      exact ⟨h1, kp.own h2 h4 h6, h3, Nat.lt_of_lt_of_le h4 kp.size, h5, h6⟩
  · by_cases ej : j = k
    · by_cases ej' : j' = k
      · omega
      · subst ej
        rw [setG_same] at e1
        rw [setG_other G _ ej'] at e2
        injection e1 with e1
        injection e1 with e1 _
        exact absurd (Or.inr (Or.inr ⟨j', lj', e1 ▸ e2⟩)) hn
    · by_cases ej' : j' = k
      · subst ej'
        rw [setG_same] at e2
        rw [setG_other G _ ej] at e1
        injection e2 with e2
        injection e2 with e2 _
        exact absurd (Or.inr (Or.inr ⟨j, lj, e2 ▸ e1⟩)) hn
      · rw [setG_other G _ ej] at e1
        rw [setG_other G _ ej'] at e2
        exact h.inj j j' gj lj lj' e1 e2

/-- Bytes of a page that is laid. -/
theorem IsSp.write (h : IsSp w s m P T G) (k g : Nat) (l : List UInt8) (e : G k = some (g, l)) (o : Nat) (p : List UInt8) (hp : o + p.length ≤ 4096) :
    IsSp (w.setCells g o (u8s p)) s m P T (setG G k (g, M.splice l o p)) := by
  obtain ⟨hkP, ho, hl, hg, hgs, hgm⟩ := h.page k g l e
  have kp : Kept w (w.setCells g o (u8s p)) (fun b => b = g) := (Kept.refl _ (fun b => b = g)).setCells (g := g) (fun _ => rfl) _ _
  obtain ⟨D, hD⟩ := h.map
  have hD' := hD.kept (w' := w.setCells g o (u8s p)) (kp.block m h.mlt (fun e => hgm e.symm))
  have fs : ¬ (s = g) := fun e => hgs e.symm
  refine ⟨kp.cell_some h.c0 fs, kp.cell_some h.c1 fs, kp.cell_some h.c2 fs, (kp.frozen (p := ⟨s, 2, none⟩) h.slt fs).trans h.f2, ⟨D, ⟨hD'.own, fun j hj zd => ?_, hD.keys, ?_⟩⟩, h.pos, h.top, fun j gj lj ej => ?_, fun j j' gj lj lj' e1 e2 => ?_⟩
  · rw [hD.at' j hj zd]
    by_cases ej : j = k
    · subst ej
      rw [setG_same, e]
    · rw [setG_other G _ ej]
  · rw [hD.cnt, cntOf_setG' G k _ P (by rw [e]; rfl)]
  · by_cases ej' : j = k
    · subst ej'
      rw [setG_same] at ej
      injection ej with ej
      injection ej with e1 e2
      subst e1 e2
      exact ⟨hkP, ho.setCells o p (by omega), (M.splice_length l o p (by omega)).trans hl, Nat.lt_of_lt_of_le hg kp.size, hgs, hgm⟩
    · rw [setG_other G _ ej'] at ej
      obtain ⟨h1, h2, h3, h4, h5, h6⟩ := h.page j gj lj ej
      refine ⟨h1, kp.own h2 h4 (fun eg => ej' ?_), h3, Nat.lt_of_lt_of_le h4 kp.size, h5, h6⟩
      exact h.inj j k g lj l (eg ▸ ej) e
  · have back : ∀ {i : Nat} {gi : Nat} {li : List UInt8}, setG G k (g, M.splice l o p) i = some (gi, li) → ∃ li', G i = some (gi, li') := by
      intro i gi li hi
      by_cases ei : i = k
      · subst ei
        rw [setG_same] at hi
        injection hi with hi
        injection hi with hi _
        exact ⟨l, hi ▸ e⟩
      · rw [setG_other G _ ei] at hi
        exact ⟨li, hi⟩
    obtain ⟨_, b1⟩ := back e1
    obtain ⟨_, b2⟩ := back e2
    exact h.inj j j' gj _ _ b1 b2

theorem IsSp.tick (h : IsSp w s m P T G) (T' : Nat) (x : Int) (hx : x = (T' : Int)) : IsSp (w.setCell ⟨s, 2, none⟩ (.int .i64 x)) s m P T' G := by
  subst hx
  have kp : Kept w (w.setCell ⟨s, 2, none⟩ (.int .i64 (T' : Int))) (fun b => b = s) := (Kept.refl _ (fun b => b = s)).setCell (p := ⟨s, 2, none⟩) (fun _ => rfl) _
  obtain ⟨D, hD⟩ := h.map
  refine ⟨?_, ?_, World.cell?_setCell_same _ _ _ h.c2, (World.frozen?_setCell _ _ _ _).trans h.f2, ⟨D, hD.kept (kp.block m h.mlt h.ne)⟩, h.pos, h.top, fun k g l e => ?_, h.inj⟩
  · rw [World.cell?_setCell_other _ _ _ _ (by simp)]; exact h.c0
  · rw [World.cell?_setCell_other _ _ _ _ (by simp)]; exact h.c1
  · obtain ⟨h1, h2, h3, h4, h5, h6⟩ := h.page k g l e
    exact ⟨h1, kp.own h2 h4 h5, h3, Nat.lt_of_lt_of_le h4 kp.size, h5, h6⟩

theorem Mine.of_setG {k g : Nat} {l : List UInt8} {b : Nat} (h : Mine s m (setG G k (g, l)) b) : Mine s m G b ∨ b = g := by
  rcases h with h | h | ⟨j, l', e⟩
  · exact Or.inl (Or.inl h)
  · exact Or.inl (Or.inr (Or.inl h))
  · by_cases ej : j = k
    · subst ej
      rw [setG_same] at e
      injection e with e
      injection e with e _
      exact Or.inr e.symm
    · rw [setG_other G _ ej] at e
      exact Or.inl (Or.inr (Or.inr ⟨j, l', e⟩))
end
end Go.Proofs.Ytacognejefeboaa
