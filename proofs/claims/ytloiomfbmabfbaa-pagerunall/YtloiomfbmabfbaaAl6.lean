/-
  Pages that are taken and given back, in memory: what an Alloc's block holds; become.
-/
import Derived.Test.YtloiomfbmabfbaaCon7
import Derived.Test.YtloiomfbmabfbaaRef5
namespace Go.Proofs.Ytloiomfbmabfbaa
open Go.ChangeShapes Go.WideShapes Go.ChangeAt Go.RowKit Go.Deep
set_option linter.unusedVariables false
set_option maxRecDepth 20000

/-- The cells of an Alloc. -/
structure Al (w : World) (g : Nat) (P : Int) (A : Option Addr) (z c : Nat) (T : Int) : Prop where
  c0 : w.cell? ⟨g, 0, none⟩ = some (.int .i64 P)
  c1 : w.cell? ⟨g, 1, none⟩ = some (.slice A z c)
  c2 : w.cell? ⟨g, 2, none⟩ = some (.int .i64 T)
  c3 : ∀ j, 3 ≤ j → w.cell? ⟨g, j, none⟩ = none
  f1 : w.frozen? ⟨g, 1, none⟩ = false
  f2 : w.frozen? ⟨g, 2, none⟩ = false
section
variable {w w' : World} {g : Nat} {P T : Int} {A : Option Addr} {z c : Nat}
theorem Al.lt (h : Al w g P A z c T) : g < w.heap.size := lt_of_cell h.c0
theorem Al.keep (h : Al w g P A z c T) (hb : w'.heap[g]? = w.heap[g]?) : Al w' g P A z c T :=
  ⟨(World.cell?_of_block (w := w) (a := ⟨g, 0, none⟩) hb).trans h.c0, (World.cell?_of_block (w := w) (a := ⟨g, 1, none⟩) hb).trans h.c1, (World.cell?_of_block (w := w) (a := ⟨g, 2, none⟩) hb).trans h.c2,
    fun j hj => (World.cell?_of_block (w := w) (a := ⟨g, j, none⟩) hb).trans (h.c3 j hj), (World.frozen?_of_block (w := w) (a := ⟨g, 1, none⟩) hb).trans h.f1, (World.frozen?_of_block (w := w) (a := ⟨g, 2, none⟩) hb).trans h.f2⟩
theorem Al.below (h : Al w g P A z c T) (hb : Below w.heap.size w w') : Al w' g P A z c T := h.keep (hb.block g h.lt)
theorem Al.alloc (h : Al w g P A z c T) (o : Obj) : Al (w.alloc o) g P A z c T := h.keep (Below.heap_alloc w o g h.lt)
theorem Al.drew (h : Al w g P A z c T) : Al w.drew g P A z c T := ⟨h.c0, h.c1, h.c2, h.c3, h.f1, h.f2⟩
theorem Al.new (w : World) (P : Int) (A : Option Addr) (z c : Nat) (T : Int) : Al (w.alloc (.cells #[.int .i64 P, .slice A z c, .int .i64 T] 57)) w.heap.size P A z c T :=
  ⟨by rw [World.cell?_alloc_mark]; rfl, by rw [World.cell?_alloc_mark]; rfl, by rw [World.cell?_alloc_mark]; rfl, fun j hj => by rw [World.cell?_alloc_mark]; simp; omega, by rw [World.frozen?_alloc_mark]; simp, by rw [World.frozen?_alloc_mark]; simp⟩
theorem Al.tick (h : Al w g P A z c T) (T' : Int) : Al (w.setCell ⟨g, 2, none⟩ (.int .i64 T')) g P A z c T' := by
  refine ⟨?_, ?_, World.cell?_setCell_same _ _ _ h.c2, fun j hj => ?_, ?_, ?_⟩
  · rw [World.cell?_setCell_other _ _ _ _ (by simp)]; exact h.c0
  · rw [World.cell?_setCell_other _ _ _ _ (by simp)]; exact h.c1
  · rw [World.cell?_setCell_other _ _ _ _ (by simp; try omega)]; exact h.c3 j hj
  · rw [World.frozen?_setCell]; exact h.f1
  · rw [World.frozen?_setCell]; exact h.f2
theorem Al.turn (h : Al w g P A z c T) (A' : Option Addr) (z' c' : Nat) : Al (w.setCell ⟨g, 1, none⟩ (.slice A' z' c')) g P A' z' c' T := by
  refine ⟨?_, World.cell?_setCell_same _ _ _ h.c1, ?_, fun j hj => ?_, ?_, ?_⟩
  · rw [World.cell?_setCell_other _ _ _ _ (by simp)]; exact h.c0
  · rw [World.cell?_setCell_other _ _ _ _ (by simp)]; exact h.c2
  · rw [World.cell?_setCell_other _ _ _ _ (by simp; try omega)]; exact h.c3 j hj
  · rw [World.frozen?_setCell]; exact h.f1
  · rw [World.frozen?_setCell]; exact h.f2
/-- No run lies in the Alloc's block. -/
theorem Al.apart (h : Al w g P A z c T) {A' : Option Addr} {l' : List M.R} (hr : Runs w A' l') (hl : 0 < l'.length) : ∃ bl o, A' = some ⟨bl, o, none⟩ ∧ bl ≠ g ∧ ∀ i (hi : i < l'.length), w.cell? ⟨bl, o + i * 2, none⟩ = some (.int .i64 l'[i].p) ∧ w.cell? ⟨bl, o + i * 2 + 1, none⟩ = some (.int .i64 l'[i].n) := by
  obtain ⟨bl, o, rfl, hc⟩ := hr hl
  refine ⟨bl, o, rfl, fun e => ?_, hc⟩
  subst e
  obtain ⟨h0, h1⟩ := hc 0 hl
  simp only [Nat.zero_mul, Nat.add_zero] at h0 h1
  rcases Nat.lt_or_ge o 3 with ho | ho
  · have : o = 0 ∨ o = 1 ∨ o = 2 := by omega
    rcases this with rfl | rfl | rfl
    · rw [h.c1] at h1; cases h1
    · rw [h.c1] at h0; cases h0
    · rw [h.c3 3 (by omega)] at h1; cases h1
  · rw [h.c3 o ho] at h0; cases h0
theorem Al.runs (h : Al w g P A z c T) {A' : Option Addr} {l' : List M.R} (hr : Runs w A' l') (hb : w.grownBy w' (some g)) : Runs w' A' l' := fun hl => by
  obtain ⟨bl, o, rfl, hne, hc⟩ := h.apart hr hl
  have k : ∀ j, bl < w.heap.size → w'.cell? ⟨bl, j, none⟩ = w.cell? ⟨bl, j, none⟩ := fun j hj => World.cell?_of_block (w := w) (a := ⟨bl, j, none⟩) (hb.block bl hj (fun e => hne (by injection e)))
  exact ⟨bl, o, rfl, fun i hi => ⟨(k _ (lt_of_cell (hc i hi).1)).trans (hc i hi).1, (k _ (lt_of_cell (hc i hi).2)).trans (hc i hi).2⟩⟩
end
theorem grown_of {w w' : World} (h : Below w.heap.size w w') (g : Nat) : w.grownBy w' (some g) := ⟨h.os, h.tape, h.output, h.size, fun i hi _ => h.block i hi⟩
theorem grown_go {a b c : World} {g : Nat} (h : a.grownBy b (some g)) (k : b.grownBy c (some g)) : a.grownBy c (some g) :=
  ⟨k.os.trans h.os, k.tape.trans h.tape, k.output.trans h.output, Nat.le_trans h.size k.size, fun i hi hne => (k.block i (Nat.lt_of_lt_of_le hi h.size) hne).trans (h.block i hi hne)⟩
/-- An Alloc: how many pages there are, which runs are free, what ticked. -/
def Has (w : World) (g : Nat) (P : Int) (l : List M.R) (T : Int) : Prop := ∃ A z c, Al w g P A z c T ∧ z = l.length ∧ Runs w A l
section
variable {w w' : World} {g : Nat} {P T : Int} {l : List M.R}
theorem Has.below (h : Has w g P l T) (hb : Below w.heap.size w w') : Has w' g P l T := by
  obtain ⟨A, z, c, h, hz, hr⟩ := h
  exact ⟨A, z, c, h.below hb, hz, hr.below hb⟩
theorem Has.lt (h : Has w g P l T) : g < w.heap.size := by
  obtain ⟨A, z, c, h, hz, hr⟩ := h
  exact h.lt
theorem Has.runs (h : Has w g P l T) {A' : Option Addr} {l' : List M.R} (hr : Runs w A' l') (hb : w.grownBy w' (some g)) : Runs w' A' l' := by
  obtain ⟨A, z, c, h, _, _⟩ := h
  exact h.runs hr hb
end

set_option maxHeartbeats 2000000 in
theorem become_any (w : World) (g : Nat) (P : Int) (A : Option Addr) (z c : Nat) (T : Int) (h : Al w g P A z c T) (hz : z ≤ 4000000000) (hT0 : 0 ≤ T) (hT : T ≤ 1000000000000) (A' : Option Addr) (z' c' : Nat) :
    Calls Try.prog 26 #[.pointer (some ⟨g, 0, none⟩), .slice A' z' c'] w fun e w' => e = .returned (.tuple #[]) ∧ Al w' g P A' z' c' (T + 1 + z) ∧ w.grownBy w' (some g) := by
  have HA := Lib.hid h
  have d1 : w.drew.cell? ⟨g, 1, none⟩ = some (.slice A z c) := h.c1
  have d2 : w.drew.cell? ⟨g, 2, none⟩ = some (.int .i64 T) := h.c2
  have e1 := h.f1
  have e2 := h.f2
  have s1 : IntKind.i64.wrap (1 + (z : Int)) = 1 + (z : Int) := by rw [IntKind.wrap_i64]; omega
  have s2 : IntKind.i64.wrap (T + (1 + (z : Int))) = T + 1 + z := by rw [IntKind.wrap_i64]; omega
  have hn := h.tick (T + 1 + z)
  have g1 : (w.drew.setCell ⟨g, 2, none⟩ (.int .i64 (T + 1 + z))).cell? ⟨g, 1, none⟩ = some (.slice A z c) := hn.c1
  have g2 : (w.drew.setCell ⟨g, 2, none⟩ (.int .i64 (T + 1 + z))).frozen? ⟨g, 1, none⟩ = false := hn.f1
  have HN := Lib.hid hn
  clear h hn hz hT hT0
  go_enter Try.func26, Try.ntmps26
  go_wp2_with fail
  refine wp_region_noPanic ?_
  refine wp_region_held_drew (S := fun W => W.cell? ⟨g, 1, none⟩ = some (.slice A z c)) (by kernel_rfl) (d1) (fun hHeld => ?_)
  refine wpAnyH_take (i := 0) (oi := ({ dst := some 4, op := Op.move (Operand.tmp 0), type := 24, pos := "pagerun.go:53", after := #[], guard := none } : Oper)) (v := ?_) rfl (by kernel_rfl) (by kernel_rfl) (by kernel_rfl) (fun _ _ _ h => h) (Or.inl ⟨by rfl, ?_⟩) (by assumption) ?_
  rotate_left
  · (intro w hSw; (try dsimp only at hSw); go_simp) <;> with_reducible rfl
  (try simp only [Act.put, List.setIfInBounds_toArray, List.set_cons_zero, List.set_cons_succ])
  refine wpAnyH_take (i := 1) (oi := ({ dst := some 5, op := Op.nilCheck (Operand.tmp 4), type := 0, pos := "pagerun.go:53", after := #[{ on := 0, ground := Ground.data }], guard := none } : Oper)) (v := ?_) rfl (by kernel_rfl) (by kernel_rfl) (by kernel_rfl) (fun _ _ _ h => h) (Or.inl ⟨by rfl, ?_⟩) (by assumption) ?_
  rotate_left
  · (intro w hSw; (try dsimp only at hSw); go_simp) <;> with_reducible rfl
  (try simp only [Act.put, List.setIfInBounds_toArray, List.set_cons_zero, List.set_cons_succ])
  refine wpAnyH_take (i := 2) (oi := ({ dst := some 6, op := Op.fieldAddr 57 (Operand.tmp 5) 2, type := 0, pos := "pagerun.go:53", after := #[{ on := 1, ground := Ground.data }], guard := none } : Oper)) (v := ?_) rfl (by kernel_rfl) (by kernel_rfl) (by kernel_rfl) (fun _ _ _ h => h) (Or.inl ⟨by rfl, ?_⟩) (by assumption) ?_
  rotate_left
  · (intro w hSw; (try dsimp only at hSw); go_simp) <;> with_reducible rfl
  (try simp only [Act.put, List.setIfInBounds_toArray, List.set_cons_zero, List.set_cons_succ])
  refine wpAnyH_take (i := 4) (oi := ({ dst := some 8, op := Op.move (Operand.tmp 0), type := 24, pos := "pagerun.go:53", after := #[], guard := none } : Oper)) (v := ?_) rfl (by kernel_rfl) (by kernel_rfl) (by kernel_rfl) (fun _ _ _ h => h) (Or.inl ⟨by rfl, ?_⟩) (by assumption) ?_
  rotate_left
  · (intro w hSw; (try dsimp only at hSw); go_simp) <;> with_reducible rfl
  (try simp only [Act.put, List.setIfInBounds_toArray, List.set_cons_zero, List.set_cons_succ])
  refine wpAnyH_take (i := 5) (oi := ({ dst := some 9, op := Op.nilCheck (Operand.tmp 8), type := 0, pos := "pagerun.go:53", after := #[{ on := 4, ground := Ground.data }], guard := none } : Oper)) (v := ?_) rfl (by kernel_rfl) (by kernel_rfl) (by kernel_rfl) (fun _ _ _ h => h) (Or.inl ⟨by rfl, ?_⟩) (by assumption) ?_
  rotate_left
  · (intro w hSw; (try dsimp only at hSw); go_simp) <;> with_reducible rfl
  (try simp only [Act.put, List.setIfInBounds_toArray, List.set_cons_zero, List.set_cons_succ])
  refine wpAnyH_take (i := 6) (oi := ({ dst := some 10, op := Op.fieldAddr 57 (Operand.tmp 9) 1, type := 0, pos := "pagerun.go:53", after := #[{ on := 5, ground := Ground.data }], guard := none } : Oper)) (v := ?_) rfl (by kernel_rfl) (by kernel_rfl) (by kernel_rfl) (fun _ _ _ h => h) (Or.inl ⟨by rfl, ?_⟩) (by assumption) ?_
  rotate_left
  · (intro w hSw; (try dsimp only at hSw); go_simp) <;> with_reducible rfl
  (try simp only [Act.put, List.setIfInBounds_toArray, List.set_cons_zero, List.set_cons_succ])
  refine wpAnyH_take (i := 7) (oi := ({ dst := some 11, op := Op.load 26 (Operand.tmp 10), type := 26, pos := "pagerun.go:53", after := #[{ on := 6, ground := Ground.data }], guard := none } : Oper)) (v := ?_) rfl (by kernel_rfl) (by kernel_rfl) (by kernel_rfl) (fun _ _ _ h => h) (Or.inl ⟨by rfl, ?_⟩) (by assumption) ?_
  rotate_left
  · (intro w hSw; (try dsimp only at hSw); go_simp) <;> with_reducible rfl
  (try simp only [Act.put, List.setIfInBounds_toArray, List.set_cons_zero, List.set_cons_succ])
  refine wpAnyH_take (i := 8) (oi := ({ dst := some 12, op := Op.call { callee := Callee.builtin Builtin.len, args := #[Operand.tmp 11], argTypes := #[26] }, type := 3, pos := "pagerun.go:53", after := #[{ on := 7, ground := Ground.data }], guard := none } : Oper)) (v := ?_) rfl (by kernel_rfl) (by kernel_rfl) (by kernel_rfl) (fun _ _ _ h => h) (Or.inl ⟨by rfl, ?_⟩) (by assumption) ?_
  rotate_left
  · (intro w hSw; (try dsimp only at hSw); go_simp) <;> with_reducible rfl
  (try simp only [Act.put, List.setIfInBounds_toArray, List.set_cons_zero, List.set_cons_succ])
  refine wpAnyH_take (i := 9) (oi := ({ dst := some 13, op := Op.binOp BinOp.add 3 (Operand.const (Value.int IntKind.i64 1)) (Operand.tmp 12) 3, type := 3, pos := "pagerun.go:53", after := #[{ on := 8, ground := Ground.data }], guard := none } : Oper)) (v := ?_) rfl (by kernel_rfl) (by kernel_rfl) (by kernel_rfl) (fun _ _ _ h => h) (Or.inl ⟨by rfl, ?_⟩) (by assumption) ?_
  rotate_left
  · (intro w hSw; (try dsimp only at hSw); go_simp) <;> with_reducible rfl
  (try simp only [Act.put, List.setIfInBounds_toArray, List.set_cons_zero, List.set_cons_succ])
  refine wpAnyH_ready (rs := [3]) (by kernel_rfl) (by simp) ?_
  refine AllReadyH.cons (o := ({ dst := some 7, op := Op.load 3 (Operand.tmp 6), type := 3, pos := "pagerun.go:53", after := #[{ on := 2, ground := Ground.data }], guard := none } : Oper)) rfl (fun K hK => ?_) ?_
  · go_simp
    refine hK.out _ _ ?_ (fun hHeld => ?_)
    · exact d1
    clear hK K
    (try simp only [Act.put, List.setIfInBounds_toArray, List.set_cons_zero, List.set_cons_succ])
    refine wpAnyH_take (i := 10) (oi := ({ dst := some 14, op := Op.binOp BinOp.add 3 (Operand.tmp 7) (Operand.tmp 13) 3, type := 3, pos := "pagerun.go:53", after := #[{ on := 3, ground := Ground.data }, { on := 9, ground := Ground.data }], guard := none } : Oper)) (v := ?_) rfl (by kernel_rfl) (by kernel_rfl) (by kernel_rfl) (fun _ _ _ h => h) (Or.inl ⟨by rfl, ?_⟩) (by assumption) ?_
    rotate_left
    · (intro w hSw; (try dsimp only at hSw); go_simp) <;> with_reducible rfl
    (try simp only [Act.put, List.setIfInBounds_toArray, List.set_cons_zero, List.set_cons_succ])
    refine wpAnyH_take (i := 11) (oi := ({ dst := some 15, op := Op.nilCheck (Operand.tmp 4), type := 0, pos := "pagerun.go:53", after := #[{ on := 0, ground := Ground.data }, { on := 0, ground := Ground.phase }, { on := 1, ground := Ground.phase }, { on := 2, ground := Ground.phase }, { on := 3, ground := Ground.phase }, { on := 4, ground := Ground.phase }, { on := 5, ground := Ground.phase }, { on := 6, ground := Ground.phase }, { on := 7, ground := Ground.phase }, { on := 8, ground := Ground.phase }, { on := 9, ground := Ground.phase }, { on := 10, ground := Ground.phase }], guard := none } : Oper)) (v := ?_) rfl (by kernel_rfl) (by kernel_rfl) (by kernel_rfl) (fun _ _ _ h => h) (Or.inl ⟨by rfl, ?_⟩) (by assumption) ?_
    rotate_left
    · (intro w hSw; (try dsimp only at hSw); go_simp) <;> with_reducible rfl
    (try simp only [Act.put, List.setIfInBounds_toArray, List.set_cons_zero, List.set_cons_succ])
    refine wpAnyH_take (i := 12) (oi := ({ dst := some 16, op := Op.fieldAddr 57 (Operand.tmp 15) 2, type := 0, pos := "pagerun.go:53", after := #[{ on := 11, ground := Ground.data }, { on := 0, ground := Ground.phase }, { on := 1, ground := Ground.phase }, { on := 2, ground := Ground.phase }, { on := 3, ground := Ground.phase }, { on := 4, ground := Ground.phase }, { on := 5, ground := Ground.phase }, { on := 6, ground := Ground.phase }, { on := 7, ground := Ground.phase }, { on := 8, ground := Ground.phase }, { on := 9, ground := Ground.phase }, { on := 10, ground := Ground.phase }], guard := none } : Oper)) (v := ?_) rfl (by kernel_rfl) (by kernel_rfl) (by kernel_rfl) (fun _ _ _ h => h) (Or.inl ⟨by rfl, ?_⟩) (by assumption) ?_
    rotate_left
    · (intro w hSw; (try dsimp only at hSw); go_simp) <;> with_reducible rfl
    (try simp only [Act.put, List.setIfInBounds_toArray, List.set_cons_zero, List.set_cons_succ])
    refine wpAnyH_ready (rs := [13]) (by kernel_rfl) (by simp) ?_
    refine AllReadyH.cons (o := ({ dst := none, op := Op.store 3 (Operand.tmp 16) (Operand.tmp 14), type := 0, pos := "pagerun.go:53", after := #[{ on := 12, ground := Ground.data }, { on := 10, ground := Ground.data }, { on := 0, ground := Ground.phase }, { on := 1, ground := Ground.phase }, { on := 2, ground := Ground.phase }, { on := 3, ground := Ground.phase }, { on := 4, ground := Ground.phase }, { on := 5, ground := Ground.phase }, { on := 6, ground := Ground.phase }, { on := 7, ground := Ground.phase }, { on := 8, ground := Ground.phase }, { on := 9, ground := Ground.phase }, { on := 10, ground := Ground.phase }], guard := none } : Oper)) rfl (fun K hK => ?_) ?_
    · go_simp
      refine hK.out _ _ ?_ (fun hHeld => ?_)
      · exact g1
      clear hK K
      (try simp only [Act.put, List.setIfInBounds_toArray, List.set_cons_zero, List.set_cons_succ])
      refine wpAnyH_done (by kernel_rfl) ?_ _
      refine NoPanic.normal ?_
      go_wp2_with fail
      first
        | go_end0
        | skip
      exact ⟨rfl, (HN.out.turn A' z' c').drew, only_setCell (only_setCell (grown_of (Below.refl _ _).drew g) rfl _) rfl _⟩
    exact AllReadyH.nil
  exact AllReadyH.nil
end Go.Proofs.Ytloiomfbmabfbaa
