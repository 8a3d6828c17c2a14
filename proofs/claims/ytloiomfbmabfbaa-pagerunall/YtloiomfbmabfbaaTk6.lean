/-
  Take and Give of an Alloc.
-/
import Derived.Test.YtloiomfbmabfbaaSm6
import Derived.Test.YtloiomfbmabfbaaGive6
namespace Go.Proofs.Ytloiomfbmabfbaa
open Go.ChangeShapes Go.WideShapes Go.ChangeAt Go.RowKit Go.Deep
set_option linter.unusedVariables false
set_option maxRecDepth 20000

def tkE (l : List M.R) (n : Int) : Int := if n < 1 then 1 else if takeB l n = true then 0 else 4
def tkL (l : List M.R) (n : Int) : List M.R := if takeB l n = true then takeL l n else l
def tkT (l : List M.R) (n T : Int) : Int := if takeB l n = true then T + 1 + l.length else T
def gvE (l : List M.R) (N p n : Int) : Int := if giveB l N p n = true then 0 else 1
def gvL (l : List M.R) (N p n : Int) : List M.R := if giveB l N p n = true then giveL l N p n else l
def gvT (l : List M.R) (N p n T : Int) : Int := if giveB l N p n = true then T + 1 + l.length else T
/-- What an Alloc answers, and how it stands then. -/
def GotA (w : World) (g : Nat) (P : Int) (l : List M.R) (T : Int) (v : Value) (e : Ending) (w' : World) : Prop := e = .returned v ∧ Has w' g P l T ∧ w.grownBy w' (some g)
theorem takeB_small {l : List M.R} {n : Int} (h : n < 1) : takeB l n = false := by
  unfold takeB
  rw [M.best_none h]
  rfl
theorem takeP_none {l : List M.R} {n : Int} (h : takeB l n = false) : takeP l n = 0 := by unfold takeP; rw [h]; rfl

set_option maxHeartbeats 2000000 in
theorem al_take (w : World) (g : Nat) (P : Int) (l : List M.R) (T : Int) (h : Has w g P l T) (hok : M.Ok (-1) P l) (h0 : 0 ≤ P) (hP : P ≤ 1048576) (hT0 : 0 ≤ T) (hT : T ≤ 1000000000000) (n : Int) :
    Calls Try.prog 14 #[.pointer (some ⟨g, 0, none⟩), .int .i64 n] w (GotA w g P (tkL l n) (tkT l n T) (.tuple #[.int .i64 (takeP l n), .int .i64 (tkE l n)])) := by
  have HH := Lib.hid h
  obtain ⟨A, z, c, h, hz, hr⟩ := h
  have hl := M.len_le hok h0
  have HC := Lib.hid (take_any w A l z c hz hr (by omega) (hok.wide (by omega)) n)
  have c1 := h.c1
  have HA := Lib.hid (And.intro h (And.intro hz (show z ≤ 4000000000 by omega)))
  have HT := Lib.hid (And.intro hT0 hT)
  clear h hr hz hok hl h0 hP hT hT0
  by_cases hn : n < 1
  · have HF := Lib.hid (takeB_small (l := l) hn)
    go_enter Try.func14, Try.ntmps14
    go_wp2_with fail
    go_ret2
    refine ⟨?_, ?_, World.grownBy.refl _ _⟩
    · rw [takeP_none HF.out, tkE, if_pos hn]; rfl
    · rw [tkL, tkT, HF.out]
      exact HH.out
  · go_enter Try.func14, Try.ntmps14
    go_wp2_with fail
    refine HC.out.mono ?_
    rintro e w1 ⟨A', t, c', rfl, ht, hR, hB, hF⟩
    have HB := Lib.hid (And.intro hB (And.intro hR ht))
    clear hB hR ht hF
    rcases Bool.eq_false_or_eq_true (takeB l n) with hb | hb
    · have HE := Lib.hid (show tkE l n = 0 ∧ tkL l n = takeL l n ∧ tkT l n T = T + 1 + l.length from ⟨by rw [tkE, if_neg (by omega), if_pos hb], by rw [tkL, if_pos hb], by rw [tkT, if_pos hb]⟩)
      rw [hb] at *
      clear hb
      go_wp2_with fail
      refine (become_any w1 g P A z c T (HA.out.1.below HB.out.1) HA.out.2.2 HT.out.1 HT.out.2 A' t c').mono ?_
      rintro e w2 ⟨rfl, hal, hg⟩
      have HG := Lib.hid (And.intro hal hg)
      clear hal hg
      go_wp2_with fail
      go_ret2
      refine ⟨?_, ?_, grown_go (grown_of HB.out.1 g) HG.out.2⟩
      · rw [HE.out.1]; rfl
      · rw [HE.out.2.1, HE.out.2.2]
        have hz := HA.out.2.1
        exact ⟨A', t, c', by rw [← hz]; exact HG.out.1, HB.out.2.2, (HA.out.1.below HB.out.1).runs HB.out.2.1 HG.out.2⟩
    · have HE := Lib.hid (show tkE l n = 4 ∧ tkL l n = l ∧ tkT l n T = T ∧ takeP l n = 0 from ⟨by rw [tkE, if_neg (by omega), hb]; rfl, by rw [tkL, hb]; rfl, by rw [tkT, hb]; rfl, takeP_none hb⟩)
      rw [hb] at *
      clear hb
      go_wp2_with fail
      go_ret2
      refine ⟨?_, ?_, grown_of HB.out.1 g⟩
      · rw [HE.out.1, HE.out.2.2.2]; rfl
      · rw [HE.out.2.1, HE.out.2.2.1]
        exact HH.out.below HB.out.1

set_option maxHeartbeats 4000000 in
theorem al_give (w : World) (g : Nat) (P : Int) (l : List M.R) (T : Int) (h : Has w g P l T) (hok : M.Ok (-1) P l) (h0 : 0 ≤ P) (hP : P ≤ 1048576) (hT0 : 0 ≤ T) (hT : T ≤ 1000000000000) (p n : Int) (hp : -9223372036854775808 ≤ p) :
    Calls Try.prog 12 #[.pointer (some ⟨g, 0, none⟩), .int .i64 p, .int .i64 n] w (GotA w g P (gvL l P p n) (gvT l P p n T) (.int .i64 (gvE l P p n))) := by
  have HH := Lib.hid h
  obtain ⟨A, z, c, h, hz, hr⟩ := h
  have hl := M.len_le hok h0
  have HC := Lib.hid (give_any w.drew A l z c hz hr.drew (by omega) (hok.wide (by omega)) P p n (by omega) hp)
  have d0 : w.drew.cell? ⟨g, 0, none⟩ = some (.int .i64 P) := h.c0
  have d1 : w.drew.cell? ⟨g, 1, none⟩ = some (.slice A z c) := h.c1
  have HA := Lib.hid (And.intro h (And.intro hz (show z ≤ 4000000000 by omega)))
  have HT := Lib.hid (And.intro hT0 hT)
  have HS := Lib.hid (show ∀ W, Below w.heap.size w W → W.cell? ⟨g, 0, none⟩ = some (.int .i64 P) ∧ W.cell? ⟨g, 1, none⟩ = some (.slice A z c) from fun W hW => ⟨(h.below hW).c0, (h.below hW).c1⟩)
  clear h hr hz hok hl h0 hP hT hT0 hp
  obtain ⟨b, hb⟩ : ∃ b, b = giveB l P p n := ⟨_, rfl⟩
  have HBB := Lib.hid hb
  rw [← hb] at HC
  clear hb
  go_enter Try.func12, Try.ntmps12
  go_wp2_with fail
  refine wp_region_noPanic ?_
  refine wp_region_held_drew (S := fun W => W.cell? ⟨g, 0, none⟩ = some (.int .i64 P) ∧ W.cell? ⟨g, 1, none⟩ = some (.slice A z c)) (by kernel_rfl) (⟨d0, d1⟩) (fun hHeld => ?_)
  refine wpAnyH_take (i := 0) (oi := ({ dst := some 12, op := Op.move (Operand.tmp 0), type := 24, pos := "pagerun.go:42", after := #[], guard := none } : Oper)) (v := ?_) rfl (by kernel_rfl) (by kernel_rfl) (by kernel_rfl) (fun _ _ _ h => h) (Or.inl ⟨by rfl, ?_⟩) (by assumption) ?_
  rotate_left
  · (intro w hSw; (try dsimp only at hSw); go_simp) <;> with_reducible rfl
  (try simp only [Act.put, List.setIfInBounds_toArray, List.set_cons_zero, List.set_cons_succ])
  refine wpAnyH_take (i := 1) (oi := ({ dst := some 13, op := Op.nilCheck (Operand.tmp 12), type := 0, pos := "pagerun.go:42", after := #[{ on := 0, ground := Ground.data }], guard := none } : Oper)) (v := ?_) rfl (by kernel_rfl) (by kernel_rfl) (by kernel_rfl) (fun _ _ _ h => h) (Or.inl ⟨by rfl, ?_⟩) (by assumption) ?_
  rotate_left
  · (intro w hSw; (try dsimp only at hSw); go_simp) <;> with_reducible rfl
  (try simp only [Act.put, List.setIfInBounds_toArray, List.set_cons_zero, List.set_cons_succ])
  refine wpAnyH_take (i := 2) (oi := ({ dst := some 14, op := Op.fieldAddr 57 (Operand.tmp 13) 1, type := 0, pos := "pagerun.go:42", after := #[{ on := 1, ground := Ground.data }], guard := none } : Oper)) (v := ?_) rfl (by kernel_rfl) (by kernel_rfl) (by kernel_rfl) (fun _ _ _ h => h) (Or.inl ⟨by rfl, ?_⟩) (by assumption) ?_
  rotate_left
  · (intro w hSw; (try dsimp only at hSw); go_simp) <;> with_reducible rfl
  (try simp only [Act.put, List.setIfInBounds_toArray, List.set_cons_zero, List.set_cons_succ])
  refine wpAnyH_take (i := 3) (oi := ({ dst := some 15, op := Op.load 26 (Operand.tmp 14), type := 26, pos := "pagerun.go:42", after := #[{ on := 2, ground := Ground.data }], guard := none } : Oper)) (v := ?_) rfl (by kernel_rfl) (by kernel_rfl) (by kernel_rfl) (fun _ _ _ h => h) (Or.inl ⟨by rfl, ?_⟩) (by assumption) ?_
  rotate_left
  · (intro w hSw; (try dsimp only at hSw); go_simp) <;> with_reducible rfl
  (try simp only [Act.put, List.setIfInBounds_toArray, List.set_cons_zero, List.set_cons_succ])
  refine wpAnyH_take (i := 4) (oi := ({ dst := some 16, op := Op.move (Operand.tmp 0), type := 24, pos := "pagerun.go:42", after := #[], guard := none } : Oper)) (v := ?_) rfl (by kernel_rfl) (by kernel_rfl) (by kernel_rfl) (fun _ _ _ h => h) (Or.inl ⟨by rfl, ?_⟩) (by assumption) ?_
  rotate_left
  · (intro w hSw; (try dsimp only at hSw); go_simp) <;> with_reducible rfl
  (try simp only [Act.put, List.setIfInBounds_toArray, List.set_cons_zero, List.set_cons_succ])
  refine wpAnyH_take (i := 5) (oi := ({ dst := some 17, op := Op.nilCheck (Operand.tmp 16), type := 0, pos := "pagerun.go:42", after := #[{ on := 4, ground := Ground.data }], guard := none } : Oper)) (v := ?_) rfl (by kernel_rfl) (by kernel_rfl) (by kernel_rfl) (fun _ _ _ h => h) (Or.inl ⟨by rfl, ?_⟩) (by assumption) ?_
  rotate_left
  · (intro w hSw; (try dsimp only at hSw); go_simp) <;> with_reducible rfl
  (try simp only [Act.put, List.setIfInBounds_toArray, List.set_cons_zero, List.set_cons_succ])
  refine wpAnyH_take (i := 6) (oi := ({ dst := some 18, op := Op.fieldAddr 57 (Operand.tmp 17) 0, type := 0, pos := "pagerun.go:42", after := #[{ on := 5, ground := Ground.data }], guard := none } : Oper)) (v := ?_) rfl (by kernel_rfl) (by kernel_rfl) (by kernel_rfl) (fun _ _ _ h => h) (Or.inl ⟨by rfl, ?_⟩) (by assumption) ?_
  rotate_left
  · (intro w hSw; (try dsimp only at hSw); go_simp) <;> with_reducible rfl
  (try simp only [Act.put, List.setIfInBounds_toArray, List.set_cons_zero, List.set_cons_succ])
  refine wpAnyH_take (i := 7) (oi := ({ dst := some 19, op := Op.load 3 (Operand.tmp 18), type := 3, pos := "pagerun.go:42", after := #[{ on := 6, ground := Ground.data }], guard := none } : Oper)) (v := ?_) rfl (by kernel_rfl) (by kernel_rfl) (by kernel_rfl) (fun _ _ _ h => h) (Or.inl ⟨by rfl, ?_⟩) (by assumption) ?_
  rotate_left
  · (intro w hSw; (try dsimp only at hSw); go_simp) <;> with_reducible rfl
  (try simp only [Act.put, List.setIfInBounds_toArray, List.set_cons_zero, List.set_cons_succ])
  refine wpAnyH_take (i := 8) (oi := ({ dst := some 20, op := Op.move (Operand.tmp 1), type := 3, pos := "pagerun.go:42", after := #[], guard := none } : Oper)) (v := ?_) rfl (by kernel_rfl) (by kernel_rfl) (by kernel_rfl) (fun _ _ _ h => h) (Or.inl ⟨by rfl, ?_⟩) (by assumption) ?_
  rotate_left
  · (intro w hSw; (try dsimp only at hSw); go_simp) <;> with_reducible rfl
  (try simp only [Act.put, List.setIfInBounds_toArray, List.set_cons_zero, List.set_cons_succ])
  refine wpAnyH_take (i := 9) (oi := ({ dst := some 21, op := Op.move (Operand.tmp 2), type := 3, pos := "pagerun.go:42", after := #[], guard := none } : Oper)) (v := ?_) rfl (by kernel_rfl) (by kernel_rfl) (by kernel_rfl) (fun _ _ _ h => h) (Or.inl ⟨by rfl, ?_⟩) (by assumption) ?_
  rotate_left
  · (intro w hSw; (try dsimp only at hSw); go_simp) <;> with_reducible rfl
  (try simp only [Act.put, List.setIfInBounds_toArray, List.set_cons_zero, List.set_cons_succ])
  refine wpAnyH_ready (rs := [10]) (by kernel_rfl) (by simp) ?_
  refine AllReadyH.cons (o := ({ dst := some 22, op := Op.call { callee := Callee.value (Operand.func 25), args := #[Operand.tmp 15, Operand.tmp 19, Operand.tmp 20, Operand.tmp 21], argTypes := #[26, 3, 3, 3] }, type := 58, pos := "pagerun.go:42", after := #[{ on := 3, ground := Ground.data }, { on := 7, ground := Ground.data }, { on := 8, ground := Ground.data }, { on := 9, ground := Ground.data }], guard := none } : Oper)) rfl (fun K hK => ?_) ?_
  · go_simp
    refine HC.out.mono ?_
    rintro e w1 ⟨A', t, c', rfl, ht, hR, hB⟩
    have HB := Lib.hid (And.intro (drew_call hB) (And.intro hR ht))
    clear hB hR ht
    go_wp2_with fail
    refine hK.out _ _ ?_ (fun hHeld => ?_)
    · exact HS.out _ HB.out.1
    clear hK K
    (try simp only [Act.put, List.setIfInBounds_toArray, List.set_cons_zero, List.set_cons_succ])
    refine wpAnyH_take (i := 11) (oi := ({ dst := some 11, op := Op.move (Operand.tmp 22), type := 58, pos := "pagerun.go:42", after := #[{ on := 10, ground := Ground.data }], guard := none } : Oper)) (v := ?_) rfl (by kernel_rfl) (by kernel_rfl) (by kernel_rfl) (fun _ _ _ h => h) (Or.inl ⟨by rfl, ?_⟩) (by assumption) ?_
    rotate_left
    · (intro w hSw; (try dsimp only at hSw); go_simp) <;> with_reducible rfl
    (try simp only [Act.put, List.setIfInBounds_toArray, List.set_cons_zero, List.set_cons_succ])
    refine wpAnyH_take (i := 12) (oi := ({ dst := some 23, op := Op.extract (Operand.tmp 11) 0, type := 26, pos := "pagerun.go:42", after := #[{ on := 11, ground := Ground.data }], guard := none } : Oper)) (v := ?_) rfl (by kernel_rfl) (by kernel_rfl) (by kernel_rfl) (fun _ _ _ h => h) (Or.inl ⟨by rfl, ?_⟩) (by assumption) ?_
    rotate_left
    · (intro w hSw; (try dsimp only at hSw); go_simp) <;> with_reducible rfl
    (try simp only [Act.put, List.setIfInBounds_toArray, List.set_cons_zero, List.set_cons_succ])
    refine wpAnyH_take (i := 13) (oi := ({ dst := some 24, op := Op.extract (Operand.tmp 11) 1, type := 4, pos := "pagerun.go:42", after := #[{ on := 11, ground := Ground.data }, { on := 14, ground := Ground.gcOnly Departure.lateStores }], guard := none } : Oper)) (v := ?_) rfl (by kernel_rfl) (by kernel_rfl) (by kernel_rfl) (fun _ _ _ h => h) (Or.inl ⟨by rfl, ?_⟩) (by assumption) ?_
    rotate_left
    · (intro w hSw; (try dsimp only at hSw); go_simp) <;> with_reducible rfl
    (try simp only [Act.put, List.setIfInBounds_toArray, List.set_cons_zero, List.set_cons_succ])
    refine wpAnyH_take (i := 14) (oi := ({ dst := some 7, op := Op.assign (Operand.tmp 23), type := 26, pos := "pagerun.go:42", after := #[{ on := 12, ground := Ground.data }, { on := 10, ground := Ground.chain }, { on := 0, ground := Ground.phase }, { on := 1, ground := Ground.phase }, { on := 2, ground := Ground.phase }, { on := 3, ground := Ground.phase }, { on := 4, ground := Ground.phase }, { on := 5, ground := Ground.phase }, { on := 6, ground := Ground.phase }, { on := 7, ground := Ground.phase }, { on := 8, ground := Ground.phase }, { on := 9, ground := Ground.phase }, { on := 10, ground := Ground.phase }, { on := 11, ground := Ground.phase }, { on := 12, ground := Ground.phase }, { on := 13, ground := Ground.textOnly Departure.lateStores }], guard := none } : Oper)) (v := ?_) rfl (by kernel_rfl) (by kernel_rfl) (by kernel_rfl) (fun _ _ _ h => h) (Or.inl ⟨by rfl, ?_⟩) (by assumption) ?_
    rotate_left
    · (intro w hSw; (try dsimp only at hSw); go_simp) <;> with_reducible rfl
    (try simp only [Act.put, List.setIfInBounds_toArray, List.set_cons_zero, List.set_cons_succ])
    refine wpAnyH_take (i := 15) (oi := ({ dst := some 8, op := Op.assign (Operand.tmp 24), type := 4, pos := "pagerun.go:42", after := #[{ on := 13, ground := Ground.data }, { on := 14, ground := Ground.chain }, { on := 0, ground := Ground.phase }, { on := 1, ground := Ground.phase }, { on := 2, ground := Ground.phase }, { on := 3, ground := Ground.phase }, { on := 4, ground := Ground.phase }, { on := 5, ground := Ground.phase }, { on := 6, ground := Ground.phase }, { on := 7, ground := Ground.phase }, { on := 8, ground := Ground.phase }, { on := 9, ground := Ground.phase }, { on := 10, ground := Ground.phase }, { on := 11, ground := Ground.phase }, { on := 12, ground := Ground.phase }, { on := 13, ground := Ground.phase }, { on := 14, ground := Ground.phase }], guard := none } : Oper)) (v := ?_) rfl (by kernel_rfl) (by kernel_rfl) (by kernel_rfl) (fun _ _ _ h => h) (Or.inl ⟨by rfl, ?_⟩) (by assumption) ?_
    rotate_left
    · (intro w hSw; (try dsimp only at hSw); go_simp) <;> with_reducible rfl
    (try simp only [Act.put, List.setIfInBounds_toArray, List.set_cons_zero, List.set_cons_succ])
    refine wpAnyH_done (by kernel_rfl) ?_ _
    refine NoPanic.normal ?_
    cases b with
    | true =>
      have hb := HBB.out.symm
      have HE := Lib.hid (show gvE l P p n = 0 ∧ gvL l P p n = giveL l P p n ∧ gvT l P p n T = T + 1 + l.length from ⟨by rw [gvE, if_pos hb], by rw [gvL, if_pos hb], by rw [gvT, if_pos hb]⟩)
      clear hb
      go_wp2_with fail
      refine (become_any w1 g P A z c T (HA.out.1.below HB.out.1) HA.out.2.2 HT.out.1 HT.out.2 A' t c').mono ?_
      rintro e w2 ⟨rfl, hal, hg⟩
      have HG := Lib.hid (And.intro hal hg)
      clear hal hg
      go_wp2_with fail
      go_ret
      refine ⟨?_, ?_, grown_go (grown_of HB.out.1 g) HG.out.2⟩
      · rw [HE.out.1]; rfl
      · rw [HE.out.2.1, HE.out.2.2]
        have hz := HA.out.2.1
        exact ⟨A', t, c', by rw [← hz]; exact HG.out.1, HB.out.2.2, (HA.out.1.below HB.out.1).runs HB.out.2.1 HG.out.2⟩
    | false =>
      have hb := HBB.out.symm
      have HE := Lib.hid (show gvE l P p n = 1 ∧ gvL l P p n = l ∧ gvT l P p n T = T from ⟨by rw [gvE, hb]; rfl, by rw [gvL, hb]; rfl, by rw [gvT, hb]; rfl⟩)
      clear hb
      go_wp2_with fail
      go_ret
      refine ⟨?_, ?_, grown_of HB.out.1 g⟩
      · rw [HE.out.1]; rfl
      · rw [HE.out.2.1, HE.out.2.2]
        exact HH.out.below HB.out.1
  exact AllReadyH.nil
end Go.Proofs.Ytloiomfbmabfbaa
