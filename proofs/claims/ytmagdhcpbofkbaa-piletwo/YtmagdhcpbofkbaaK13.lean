/-
  A pile, by the program: Pop.
-/
import Derived.Test.YtmagdhcpbofkbaaK12
import Derived.Test.YtmagdhcpbofkbaaK0
namespace Go.Proofs.Ytmagdhcpbofkbaa
open Go.ChangeShapes Go.WideShapes Go.ChangeAt Go.RowKit Go.Deep
set_option linter.unusedVariables false
set_option maxRecDepth 20000

section
variable {D Q : Nat → Prop} {w0 w : World} {p s o cc a b c P k g : Nat} {kd : Int} {L G : List M.R} {r : M.R} {A : Option Addr} {Z : St}
theorem Pil.pop (hs : Sd D w0 w s a b c P Z Q k) (h : Pil D w0 w p s kd o (r :: L) (some ⟨g, 0, none⟩) cc) :
    Sd D w0 (w.setCell ⟨p, 3, none⟩ (.slice (some ⟨g, 0, none⟩) L.length L.length)) s a b c P Z Q k ∧ Pil D w0 (w.setCell ⟨p, 3, none⟩ (.slice (some ⟨g, 0, none⟩) L.length L.length)) p s kd o L (some ⟨g, 0, none⟩) L.length ∧
      Kept w (w.setCell ⟨p, 3, none⟩ (.slice (some ⟨g, 0, none⟩) L.length L.length)) (fun x => x = p) := by
  have hk : Kept w (w.setCell ⟨p, 3, none⟩ (.slice (some ⟨g, 0, none⟩) L.length L.length)) (fun x => x = p) := (Kept.refl w (fun x => x = p)).setCell (p := ⟨p, 3, none⟩) (fun _ => rfl) _
  refine ⟨hs.side hk (fun x hx => by rw [hx]; exact h.dp) (fun x hx => .inl hx), ⟨h.bx.set3 _, ?_, h.pa, h.dp, h.da⟩, hk⟩
  have hv := h.vw.cut (by simp) L.length (by simp)
  rw [List.reverse_cons, List.take_left' (by rw [List.length_reverse])] at hv
  exact hv.kept hk (fun x hx e => h.pa (by rw [← e]; exact hx))
/-- What stands within a Pop. -/
structure Ip (D Q : Nat → Prop) (w0 v w : World) (s a b c P : Nat) (Z : St) (Q' : Nat → Prop) (k p : Nat) (kd : Int) (o : Nat) (L : List M.R) (A : Option Addr) (cc : Nat) : Prop where
  sd : Sd D w0 w s a b c P Z Q' k
  pl : Pil D w0 w p s kd o L A cc
  kp : Kept v w Q
  qq : ∀ x, Q' x → Q x ∨ v.heap.size ≤ x
section
variable {v w' : World} {Q' Q2 : Nat → Prop} {Z2 : St} {k2 : Nat}
theorem Ip.below (h : Ip D Q w0 v w s a b c P Z Q' k p kd o L A cc) (hb : Below w.heap.size w w') : Ip D Q w0 v w' s a b c P Z Q' k p kd o L A cc :=
  ⟨h.sd.below hb, h.pl.below hb, h.kp.trans (Kept.of_below hb Q) (fun _ _ e => e), h.qq⟩
theorem Ip.var (h : Ip D Q w0 v w s a b c P Z Q' k p kd o L A cc) (ob : Obj) : Ip (fun x => D x ∨ x = w.heap.size) Q w0 v (w.alloc ob) s a b c P Z Q' k p kd o L A cc := by
  have hb : Below w.heap.size w (w.alloc ob) := (Below.refl _ _).alloc (Nat.le_refl _) ob
  have hs : (w.alloc ob).heap.size = w.heap.size + 1 := by simp
  exact ⟨h.sd.side (Kept.of_below hb (fun _ => False)) (fun x e => e.elim) (fun x hx => hx.imp id (fun e => by omega)), (h.pl.below hb).more (fun x e => .inl e), h.kp.trans (Kept.of_below hb Q) (fun _ _ e => e), h.qq⟩
theorem Ip.stored (h : Ip D Q w0 v w s a b c P Z Q' k p kd o L A cc) {g8 : Nat} (hd : D g8) (hv : v.heap.size ≤ g8) (hp : p ≠ g8) (hA : ¬ rowD A g8) (u0 u1 u2 u3 : Value) : Ip D Q w0 v ((((w.setCell ⟨g8, 0, none⟩ u0).setCell ⟨g8, 1, none⟩ u1).setCell ⟨g8, 2, none⟩ u2).setCell ⟨g8, 3, none⟩ u3) s a b c P Z Q' k p kd o L A cc := by
  have hk : Kept w ((((w.setCell ⟨g8, 0, none⟩ u0).setCell ⟨g8, 1, none⟩ u1).setCell ⟨g8, 2, none⟩ u2).setCell ⟨g8, 3, none⟩ u3) (fun x => x = g8) :=
    ((((Kept.refl w (fun x => x = g8)).setCell (p := ⟨g8, 0, none⟩) (fun _ => rfl) u0).setCell (p := ⟨g8, 1, none⟩) (fun _ => rfl) u1).setCell (p := ⟨g8, 2, none⟩) (fun _ => rfl) u2).setCell (p := ⟨g8, 3, none⟩) (fun _ => rfl) u3
  exact ⟨h.sd.side hk (fun x hx => by rw [hx]; exact hd) (fun x hx => .inl hx), h.pl.kept hk (fun x hx e => by
    subst e
    exact hx.elim (fun e => hp e.symm) hA), h.kp.grow hk (fun x e => .inr (by rw [e]; exact hv)), h.qq⟩
theorem Ip.part (h : Ip D Q w0 v w s a b c P Z Q' k p kd o L A cc) (hs : Sto D w0 w' a b c P Z2 Q2 k2) (hk : Kept w w' Q') (hq : ∀ x, Q2 x → Q' x ∨ w.heap.size ≤ x) : Ip D Q w0 v w' s a b c P Z2 (Wid Q' w w') k2 p kd o L A cc :=
  ⟨h.sd.part hs hk hq, h.pl.call h.sd hk, h.kp.grow hk h.qq, fun x hx => hx.elim (h.qq x) (fun e => .inr (Nat.le_trans h.kp.size e.1))⟩
theorem Ip.call (h : Ip D Q w0 v w s a b c P Z Q' k p kd o L A cc) (hs : Chk D w0 w' s a b c P Z2 (Wid Q' w w') k2) (hk : Kept w w' Q') : Ip D Q w0 v w' s a b c P Z2 (Wid Q' w w') k2 p kd o L A cc :=
  ⟨h.sd.call hs, h.pl.call h.sd hk, h.kp.grow hk h.qq, fun x hx => hx.elim (h.qq x) (fun e => .inr (Nat.le_trans h.kp.size e.1))⟩
end
set_option maxHeartbeats 16000000 in
theorem ppop_any (hs : Sd D w0 w s a b c P Z Q k) (h : Pil D w0 w p s kd o (r :: L) A cc) (hk : k ≤ 80000) (hu : Z.u ≤ 600000000000) (hi : Inv P Z (r :: G)) (hP : P ≤ 1048576) (hl : L.length ≤ 800000) :
    Calls Try.prog 10 #[.pointer (some ⟨p, 0, none⟩)] w fun e w' => e = .returned (.tuple #[.int .i64 r.p, .int .i64 r.n, .int .i64 0]) ∧ ∃ c' Q' D', Sd D' w0 w' s a b c P (Z.pop P r) Q' (k + 1) ∧ Pil D' w0 w' p s kd o L A c' ∧ Kept w w' (fun x => Q x ∨ x = p) ∧ (∀ x, D x → D' x) ∧ (∀ x, Q' x → Q x ∨ w.heap.size ≤ x) := by
  obtain ⟨g, rfl⟩ := h.vw.some' (by simp)
  have hin := hi.in (List.mem_cons_self ..)
  obtain ⟨kk, oo, nn, hS⟩ := hi.hd _ (List.mem_cons_self ..)
  have HT := Lib.hid (ptop_any h (by simp; omega))
  have HI := Lib.hid (hi.read (Z.u + 1))
  obtain ⟨rp, rn⟩ := r
  simp only at hin hS HI
  have HP := Lib.hid (show rp = (rp.toNat : Int) ∧ rn = (rn.toNat : Int) ∧ rp.toNat < P from by omega)
  have RD0 := fun (W : World) (D : Nat → Prop) (Q' : Nat → Prop) (hW : Sto D w0 W a b c P Z Q' k) => st_read hW rp rp.toNat rn.toNat kk oo nn HP.out.1 HP.out.2.2 hS (by omega)
  rw [← HP.out.2.1] at RD0
  have RD := Lib.hid RD0
  obtain ⟨w2, hw2⟩ : ∃ f : World → World, f = fun w1 => w1.alloc (.cells #[.int .i64 rp, .int .i64 rn] 34) := ⟨_, rfl⟩
  have H0 := Lib.hid (show Ip D Q w0 w w s a b c P Z Q k p kd o (⟨rp, rn⟩ :: L) (some ⟨g, 0, none⟩) cc from ⟨hs, h, Kept.refl _ _, fun x e => .inl e⟩)
  have HL := Lib.hid (And.intro hl (And.intro hk hu))
  clear hs h hk hu hi hP hl hin hS RD0 w2 hw2
  go_enter Try.func10, Try.ntmps10
  go_wp2_with fail
  refine HT.out.mono ?_
  rintro e w1 ⟨rfl, hb1⟩
  simp only [topP, topN, topB]
  obtain ⟨w2, hw2⟩ : ∃ z, z = w1.alloc (.cells #[.int .i64 rp, .int .i64 rn] 34) := ⟨_, rfl⟩
  have b2 : Below w1.heap.size w1 w2 := by rw [hw2]; exact (Below.refl _ _).alloc (Nat.le_refl _) _
  have e0 : w2.cell? ⟨w1.heap.size, 0, none⟩ = some (.int .i64 rp) := by rw [hw2, World.cell?_alloc_mark]; rfl
  have e1 : w2.cell? ⟨w1.heap.size, 1, none⟩ = some (.int .i64 rn) := by rw [hw2, World.cell?_alloc_mark]; rfl
  have H2 := Lib.hid (show Ip D Q w0 w w2 s a b c P Z Q k p kd o (⟨rp, rn⟩ :: L) (some ⟨g, 0, none⟩) cc ∧ ¬ Q w1.heap.size ∧ w.heap.size ≤ w1.heap.size from ⟨(H0.out.below hb1).below b2, fun e => by have := H0.out.sd.chk.st.lt _ e; have := hb1.size; omega, hb1.size⟩)
  have c0 := H2.out.1.pl.bx.c0
  have c1 := H2.out.1.pl.bx.c1
  have c2 := H2.out.1.pl.bx.c2
  clear hb1 b2
  go_upto_region 2 with fail
  rw [← hw2]
  generalize w1.heap.size = v5 at *
  clear hw2
  obtain ⟨w3, hw3⟩ : ∃ z, z = w2.alloc (.cells #[.pointer (some ⟨s, 0, none⟩), .int .i64 kd, .int .u64 (o : Int)] 65) := ⟨_, rfl⟩
  have b3 : Below w2.heap.size w2 w3 := by rw [hw3]; exact (Below.refl _ _).alloc (Nat.le_refl _) _
  have X3 := Lib.hid (show Bx3 w3 w2.heap.size (.pointer (some ⟨s, 0, none⟩)) (.int .i64 kd) (.int .u64 (o : Int)) ∧ ¬ Q w2.heap.size ∧ w3.cell? ⟨v5, 0, none⟩ = some (.int .i64 rp) ∧ v5 < w2.heap.size from ⟨by rw [hw3]; exact Bx3.new _ _ _ _ _, fun e => by have := H2.out.1.sd.chk.st.lt _ e; omega, (b3.cell (p := ⟨v5, 0, none⟩) (lt_of_cell e0)).trans e0, lt_of_cell e0⟩)
  have H3 := Lib.hid (show Ip D Q w0 w3 w3 s a b c P Z Q k p kd o (⟨rp, rn⟩ :: L) (some ⟨g, 0, none⟩) cc ∧ ¬ Q v5 ∧ Kept w w3 Q ∧ w.heap.size ≤ v5 from ⟨⟨(H2.out.1.below b3).sd, (H2.out.1.below b3).pl, Kept.refl _ _, fun x e => .inl e⟩, H2.out.2.1, (H2.out.1.below b3).kp, H2.out.2.2⟩)
  clear b3 e0 e1
  go_upto_region 5 with fail
  rw [← hw3]
  generalize w2.heap.size = v7 at *
  clear hw3 c0 c1 c2
  have HC := Lib.hid (show ∀ W, Kept w3 W Q → W.cell? ⟨v7, 0, none⟩ = some (.pointer (some ⟨s, 0, none⟩)) ∧ W.cell? ⟨v5, 0, none⟩ = some (.int .i64 rp) from fun W hW => ⟨hW.cell_some X3.out.1.c0 X3.out.2.1, hW.cell_some X3.out.2.2.1 H3.out.2.1⟩)
  go_cut [8, 9] (fun s8 s9 wx => ∃ (g8 : Nat), s8 = .pointer (some ⟨g8, 0, none⟩) ∧ s9 = .int .i64 0 ∧ Hid (∃ Q5 D5, Ip D5 Q w0 w3 wx s a b c P { Z with u := Z.u + 1 } Q5 k p kd o (⟨rp, rn⟩ :: L) (some ⟨g, 0, none⟩) cc ∧ Box4 wx g8 (.int .i64 rn) (.int .i64 (kk : Int)) (.int .u64 (oo : Int)) (.int .u64 (nn : Int)) ∧ ¬ Q5 g8 ∧ w3.heap.size ≤ g8 ∧ (∀ x, D x → D5 x)))
  case first =>
    refine wp_region_noPanic ?_
    refine wp_region_held_drew (S := fun W => W.cell? ⟨v7, 0, none⟩ = some (.pointer (some ⟨s, 0, none⟩)) ∧ W.cell? ⟨v5, 0, none⟩ = some (.int .i64 rp)) (by kernel_rfl) (HC.out _ H3.out.1.kp.drew) (fun hHeld => ?_)
    refine tkC 0 (some 24) (Op.fieldAddr 65 (Operand.tmp 7) 0) 0 (v := ?_) rfl (by decide +kernel) (by kernel_rfl) ?_ ‹_› ?_
    rotate_left
    ·(intro w hSw; (try dsimp only at hSw); go_simp) <;> with_reducible rfl
    (try simp only [Act.put, List.setIfInBounds_toArray, List.set_cons_zero, List.set_cons_succ])
    refine tkC 1 (some 25) (Op.load 24 (Operand.tmp 24)) 24 (v := ?_) rfl (by decide +kernel) (by kernel_rfl) ?_ ‹_› ?_
    rotate_left
    ·(intro w hSw; (try dsimp only at hSw); go_simp) <;> with_reducible rfl
    (try simp only [Act.put, List.setIfInBounds_toArray, List.set_cons_zero, List.set_cons_succ])
    refine tkC 3 (some 27) (Op.fieldAddr 34 (Operand.tmp 5) 0) 0 (v := ?_) rfl (by decide +kernel) (by kernel_rfl) ?_ ‹_› ?_
    rotate_left
    ·(intro w hSw; (try dsimp only at hSw); go_simp) <;> with_reducible rfl
    (try simp only [Act.put, List.setIfInBounds_toArray, List.set_cons_zero, List.set_cons_succ])
    refine tkC 4 (some 28) (Op.load 3 (Operand.tmp 27)) 3 (v := ?_) rfl (by decide +kernel) (by kernel_rfl) ?_ ‹_› ?_
    rotate_left
    ·(intro w hSw; (try dsimp only at hSw); go_simp) <;> with_reducible rfl
    (try simp only [Act.put, List.setIfInBounds_toArray, List.set_cons_zero, List.set_cons_succ])
    refine rdA (rs := [2, 9]) (by decide +kernel) ?_ rfl
    refine rcA (some 26) (Op.call { callee := Callee.value (Operand.func 15), args := #[Operand.tmp 25], argTypes := #[24] }) 44 rfl (by kernel_rfl) (fun K hK => ?_) ?_
    ·go_simp
     refine (cspace_any (H3.out.1.below (Below.refl _ _).drew).sd.chk).mono ?_
     rintro e w4 ⟨rfl, b4⟩
     have F4 := Lib.hid (show Ip D Q w0 w3 w4 s a b c P Z Q k p kd o (⟨rp, rn⟩ :: L) (some ⟨g, 0, none⟩) cc ∧ True from ⟨(H3.out.1.below (Below.refl _ _).drew).below b4, trivial⟩)
     clear b4
     go_wp2_with fail
     refine hK.out _ _ ?_ (fun hHeld => ?_)
     · exact HC.out _ F4.out.1.kp
     clear hK K
     (try simp only [Act.put, List.setIfInBounds_toArray, List.set_cons_zero, List.set_cons_succ])
     refine rdA (rs := [5, 9]) (by decide +kernel) ?_ rfl
     refine rcA (some 29) (Op.call { callee := Callee.value (Operand.func 14), args := #[Operand.tmp 26, Operand.tmp 28], argTypes := #[44, 3] }) 42 rfl (by kernel_rfl) (fun K hK => ?_) ?_
     ·go_simp
      have RR := RD.out _ D _ F4.out.1.sd.chk.st
      refine RR.mono ?_
      rintro e w6 ⟨rfl, hh, hk6⟩
      obtain ⟨Q6, hQ6⟩ : ∃ x, x = Wid Q w4 w6 := ⟨_, rfl⟩
      have F6 := Lib.hid (show Ip D Q w0 w3 w6 s a b c P { Z with u := Z.u + 1 } Q6 k p kd o (⟨rp, rn⟩ :: L) (some ⟨g, 0, none⟩) cc ∧ True from ⟨by rw [hQ6]; exact F4.out.1.part hh hk6 (fun x e => e.imp id (fun e => e.1)), trivial⟩)
      clear hh hk6 hQ6 RR
      go_wp2_with fail
      refine hK.out _ _ ?_ (fun hHeld => ?_)
      · exact HC.out _ F6.out.1.kp
      clear hK K
      (try simp only [Act.put, List.setIfInBounds_toArray, List.set_cons_zero, List.set_cons_succ])
      refine tkC 6 (some 23) (Op.move (Operand.tmp 29)) 42 (v := ?_) rfl (by decide +kernel) (by kernel_rfl) ?_ ‹_› ?_
      rotate_left
      ·(intro w hSw; (try dsimp only at hSw); go_simp) <;> with_reducible rfl
      (try simp only [Act.put, List.setIfInBounds_toArray, List.set_cons_zero, List.set_cons_succ])
      refine tkC 7 (some 30) (Op.extract (Operand.tmp 23) 0) 41 (v := ?_) rfl (by decide +kernel) (by kernel_rfl) ?_ ‹_› ?_
      rotate_left
      ·(intro w hSw; (try dsimp only at hSw); go_simp) <;> with_reducible rfl
      (try simp only [Act.put, List.setIfInBounds_toArray, List.set_cons_zero, List.set_cons_succ])
      refine tkC 8 (some 31) (Op.extract (Operand.tmp 23) 1) 30 (v := ?_) rfl (by decide +kernel) (by kernel_rfl) ?_ ‹_› ?_
      rotate_left
      ·(intro w hSw; (try dsimp only at hSw); go_simp) <;> with_reducible rfl
      (try simp only [Act.put, List.setIfInBounds_toArray, List.set_cons_zero, List.set_cons_succ])
      refine rdA (rs := [9]) (by decide +kernel) ?_ rfl
      refine rcA (some 8) (Op.alloc 41) 0 rfl (by kernel_rfl) (fun K hK => ?_) ?_
      ·go_simp
       obtain ⟨v9, hv9⟩ : ∃ x, x = w6.alloc (.cells #[.int .i64 0, .int .i64 0, .int .u64 0, .int .u64 0] 41) := ⟨_, rfl⟩
       obtain ⟨g8, hg8⟩ : ∃ g, g = w6.heap.size := ⟨_, rfl⟩
       have F5 := Lib.hid (show Ip (fun x => D x ∨ x = g8) Q w0 w3 v9 s a b c P { Z with u := Z.u + 1 } Q6 k p kd o (⟨rp, rn⟩ :: L) (some ⟨g, 0, none⟩) cc ∧ Box4 v9 g8 (.int .i64 0) (.int .i64 0) (.int .u64 0) (.int .u64 0) ∧ ¬ Q6 g8 ∧ w3.heap.size ≤ g8 from by
         rw [hv9, hg8]
         exact ⟨F6.out.1.var _, Box4.new w6 41 (.int .i64 0) (.int .i64 0) (.int .u64 0) (.int .u64 0), fun e => by have := F6.out.1.sd.chk.st.lt _ e; omega, F6.out.1.kp.size⟩)
       rw [← hv9, ← hg8]
       clear hv9 hg8
       have z0 := F5.out.2.1.c0
       have z1 := F5.out.2.1.c1
       have z2 := F5.out.2.1.c2
       have z3 := F5.out.2.1.c3
       have f0 := F5.out.2.1.fz 0
       have f1 := F5.out.2.1.fz 1
       have f2 := F5.out.2.1.fz 2
       have f3 := F5.out.2.1.fz 3
       
       refine hK.out _ _ ?_ (fun hHeld => ?_)
       · exact HC.out _ F5.out.1.kp
       clear hK K
       (try simp only [Act.put, List.setIfInBounds_toArray, List.set_cons_zero, List.set_cons_succ])
       refine rdA (rs := [10]) (by decide +kernel) ?_ rfl
       refine rcA none (Op.store 41 (Operand.tmp 8) (Operand.tmp 30)) 0 rfl (by kernel_rfl) (fun K hK => ?_) ?_
       ·go_simp
        have F7 := Lib.hid (And.intro (F5.out.1.stored (g8 := g8) (.inr rfl) F5.out.2.2.2 (fun e => by have := H3.out.1.pl.bx.lt; have := F5.out.2.2.2; omega) (fun e => by have := H3.out.1.pl.lt _ (.inr e); have := F5.out.2.2.2; omega) (.int .i64 rn) (.int .i64 (kk : Int)) (.int .u64 (oo : Int)) (.int .u64 (nn : Int))) (And.intro (F5.out.2.1.set (.int .i64 rn) (.int .i64 (kk : Int)) (.int .u64 (oo : Int)) (.int .u64 (nn : Int))) F5.out.2.2))
        generalize World.setCell _ ⟨g8, 3, none⟩ (.int .u64 (nn : Int)) = w7 at *
        clear z0 z1 z2 z3 f0 f1 f2 f3
        refine hK.out _ _ ?_ (fun hHeld => ?_)
        · exact HC.out _ F7.out.1.kp
        clear hK K
        (try simp only [Act.put, List.setIfInBounds_toArray, List.set_cons_zero, List.set_cons_succ])
        refine tkC 11 (some 9) (Op.assign (Operand.tmp 31)) 30 (v := ?_) rfl (by decide +kernel) (by kernel_rfl) ?_ ‹_› ?_
        rotate_left
        ·(intro w hSw; (try dsimp only at hSw); go_simp) <;> with_reducible rfl
        (try simp only [Act.put, List.setIfInBounds_toArray, List.set_cons_zero, List.set_cons_succ])
        refine wpAnyH_done (by kernel_rfl) ?_ _
        refine NoPanic.normal ?_
        go_wp2_with fail
        go_meet
        exact ⟨g8, rfl, rfl, Lib.hid ⟨Q6, _, F7.out.1, F7.out.2.1, F7.out.2.2.1, F7.out.2.2.2, fun x e => .inl e⟩⟩
       exact AllReadyH.nil
      exact AllReadyH.nil
     refine rcA (some 8) (Op.alloc 41) 0 rfl (by kernel_rfl) (fun K hK => ?_) ?_
     ·go_simp
      obtain ⟨v9, hv9⟩ : ∃ x, x = w4.alloc (.cells #[.int .i64 0, .int .i64 0, .int .u64 0, .int .u64 0] 41) := ⟨_, rfl⟩
      obtain ⟨g8, hg8⟩ : ∃ g, g = w4.heap.size := ⟨_, rfl⟩
      have F5 := Lib.hid (show Ip (fun x => D x ∨ x = g8) Q w0 w3 v9 s a b c P Z Q k p kd o (⟨rp, rn⟩ :: L) (some ⟨g, 0, none⟩) cc ∧ Box4 v9 g8 (.int .i64 0) (.int .i64 0) (.int .u64 0) (.int .u64 0) ∧ ¬ Q g8 ∧ w3.heap.size ≤ g8 from by
        rw [hv9, hg8]
        exact ⟨F4.out.1.var _, Box4.new w4 41 (.int .i64 0) (.int .i64 0) (.int .u64 0) (.int .u64 0), fun e => by have := F4.out.1.sd.chk.st.lt _ e; omega, F4.out.1.kp.size⟩)
      rw [← hv9, ← hg8]
      clear hv9 hg8
      have z0 := F5.out.2.1.c0
      have z1 := F5.out.2.1.c1
      have z2 := F5.out.2.1.c2
      have z3 := F5.out.2.1.c3
      have f0 := F5.out.2.1.fz 0
      have f1 := F5.out.2.1.fz 1
      have f2 := F5.out.2.1.fz 2
      have f3 := F5.out.2.1.fz 3
      
      refine hK.out _ _ ?_ (fun hHeld => ?_)
      · exact HC.out _ F5.out.1.kp
      clear hK K
      (try simp only [Act.put, List.setIfInBounds_toArray, List.set_cons_zero, List.set_cons_succ])
      refine rdA (rs := [5]) (by decide +kernel) ?_ rfl
      refine rcA (some 29) (Op.call { callee := Callee.value (Operand.func 14), args := #[Operand.tmp 26, Operand.tmp 28], argTypes := #[44, 3] }) 42 rfl (by kernel_rfl) (fun K hK => ?_) ?_
      ·go_simp
       have RR := RD.out _ (fun x => D x ∨ x = g8) _ F5.out.1.sd.chk.st
       refine RR.mono ?_
       rintro e w6 ⟨rfl, hh, hk6⟩
       obtain ⟨Q6, hQ6⟩ : ∃ x, x = Wid Q v9 w6 := ⟨_, rfl⟩
       have F6 := Lib.hid (show Ip (fun x => D x ∨ x = g8) Q w0 w3 w6 s a b c P { Z with u := Z.u + 1 } Q6 k p kd o (⟨rp, rn⟩ :: L) (some ⟨g, 0, none⟩) cc ∧ Box4 w6 g8 (.int .i64 0) (.int .i64 0) (.int .u64 0) (.int .u64 0) ∧ ¬ Q6 g8 ∧ w3.heap.size ≤ g8 from ⟨by rw [hQ6]; exact F5.out.1.part hh hk6 (fun x e => e.imp id (fun e => e.1)), F5.out.2.1.kept hk6 F5.out.2.2.1, fun e => by
         rw [hQ6] at e
         have := F5.out.2.1.lt
         exact e.elim F5.out.2.2.1 (fun e => by omega), F5.out.2.2.2⟩)
       clear hh hk6 hQ6 RR
       clear z0 z1 z2 z3 f0 f1 f2 f3
       have z0 := F6.out.2.1.c0
       have z1 := F6.out.2.1.c1
       have z2 := F6.out.2.1.c2
       have z3 := F6.out.2.1.c3
       have f0 := F6.out.2.1.fz 0
       have f1 := F6.out.2.1.fz 1
       have f2 := F6.out.2.1.fz 2
       have f3 := F6.out.2.1.fz 3
       go_wp2_with fail
       refine hK.out _ _ ?_ (fun hHeld => ?_)
       · exact HC.out _ F6.out.1.kp
       clear hK K
       (try simp only [Act.put, List.setIfInBounds_toArray, List.set_cons_zero, List.set_cons_succ])
       refine tkC 6 (some 23) (Op.move (Operand.tmp 29)) 42 (v := ?_) rfl (by decide +kernel) (by kernel_rfl) ?_ ‹_› ?_
       rotate_left
       ·(intro w hSw; (try dsimp only at hSw); go_simp) <;> with_reducible rfl
       (try simp only [Act.put, List.setIfInBounds_toArray, List.set_cons_zero, List.set_cons_succ])
       refine tkC 7 (some 30) (Op.extract (Operand.tmp 23) 0) 41 (v := ?_) rfl (by decide +kernel) (by kernel_rfl) ?_ ‹_› ?_
       rotate_left
       ·(intro w hSw; (try dsimp only at hSw); go_simp) <;> with_reducible rfl
       (try simp only [Act.put, List.setIfInBounds_toArray, List.set_cons_zero, List.set_cons_succ])
       refine tkC 8 (some 31) (Op.extract (Operand.tmp 23) 1) 30 (v := ?_) rfl (by decide +kernel) (by kernel_rfl) ?_ ‹_› ?_
       rotate_left
       ·(intro w hSw; (try dsimp only at hSw); go_simp) <;> with_reducible rfl
       (try simp only [Act.put, List.setIfInBounds_toArray, List.set_cons_zero, List.set_cons_succ])
       refine rdA (rs := [10]) (by decide +kernel) ?_ rfl
       refine rcA none (Op.store 41 (Operand.tmp 8) (Operand.tmp 30)) 0 rfl (by kernel_rfl) (fun K hK => ?_) ?_
       ·go_simp
        have F7 := Lib.hid (And.intro (F6.out.1.stored (g8 := g8) (.inr rfl) F6.out.2.2.2 (fun e => by have := H3.out.1.pl.bx.lt; have := F6.out.2.2.2; omega) (fun e => by have := H3.out.1.pl.lt _ (.inr e); have := F6.out.2.2.2; omega) (.int .i64 rn) (.int .i64 (kk : Int)) (.int .u64 (oo : Int)) (.int .u64 (nn : Int))) (And.intro (F6.out.2.1.set (.int .i64 rn) (.int .i64 (kk : Int)) (.int .u64 (oo : Int)) (.int .u64 (nn : Int))) F6.out.2.2))
        generalize World.setCell _ ⟨g8, 3, none⟩ (.int .u64 (nn : Int)) = w7 at *
        clear z0 z1 z2 z3 f0 f1 f2 f3
        refine hK.out _ _ ?_ (fun hHeld => ?_)
        · exact HC.out _ F7.out.1.kp
        clear hK K
        (try simp only [Act.put, List.setIfInBounds_toArray, List.set_cons_zero, List.set_cons_succ])
        refine tkC 11 (some 9) (Op.assign (Operand.tmp 31)) 30 (v := ?_) rfl (by decide +kernel) (by kernel_rfl) ?_ ‹_› ?_
        rotate_left
        ·(intro w hSw; (try dsimp only at hSw); go_simp) <;> with_reducible rfl
        (try simp only [Act.put, List.setIfInBounds_toArray, List.set_cons_zero, List.set_cons_succ])
        refine wpAnyH_done (by kernel_rfl) ?_ _
        refine NoPanic.normal ?_
        go_wp2_with fail
        go_meet
        exact ⟨g8, rfl, rfl, Lib.hid ⟨Q6, _, F7.out.1, F7.out.2.1, F7.out.2.2.1, F7.out.2.2.2, fun x e => .inl e⟩⟩
       exact AllReadyH.nil
      exact AllReadyH.nil
     exact AllReadyH.nil
    refine rcA (some 8) (Op.alloc 41) 0 rfl (by kernel_rfl) (fun K hK => ?_) ?_
    ·go_simp
     obtain ⟨v9, hv9⟩ : ∃ x, x = (w3.alloc (.cells #[.int .i64 0, .int .i64 0, .int .u64 0, .int .u64 0] 41)).drew := ⟨_, rfl⟩
     obtain ⟨g8, hg8⟩ : ∃ g, g = w3.heap.size := ⟨_, rfl⟩
     have F5 := Lib.hid (show Ip (fun x => D x ∨ x = g8) Q w0 w3 v9 s a b c P Z Q k p kd o (⟨rp, rn⟩ :: L) (some ⟨g, 0, none⟩) cc ∧ Box4 v9 g8 (.int .i64 0) (.int .i64 0) (.int .u64 0) (.int .u64 0) ∧ ¬ Q g8 ∧ w3.heap.size ≤ g8 from by
       have x := Box4.new w3 41 (.int .i64 0) (.int .i64 0) (.int .u64 0) (.int .u64 0)
       rw [hv9, hg8]
       exact ⟨(H3.out.1.var _).below (Below.refl _ _).drew, x.below (Below.refl _ _).drew, fun e => by have := H3.out.1.sd.chk.st.lt _ e; omega, Nat.le_refl _⟩)
     rw [← hv9, ← hg8]
     clear hv9 hg8
     have z0 := F5.out.2.1.c0
     have z1 := F5.out.2.1.c1
     have z2 := F5.out.2.1.c2
     have z3 := F5.out.2.1.c3
     have f0 := F5.out.2.1.fz 0
     have f1 := F5.out.2.1.fz 1
     have f2 := F5.out.2.1.fz 2
     have f3 := F5.out.2.1.fz 3
     
     refine hK.out _ _ ?_ (fun hHeld => ?_)
     · exact HC.out _ F5.out.1.kp
     clear hK K
     (try simp only [Act.put, List.setIfInBounds_toArray, List.set_cons_zero, List.set_cons_succ])
     refine rdA (rs := [2]) (by decide +kernel) ?_ rfl
     refine rcA (some 26) (Op.call { callee := Callee.value (Operand.func 15), args := #[Operand.tmp 25], argTypes := #[24] }) 44 rfl (by kernel_rfl) (fun K hK => ?_) ?_
     ·go_simp
      refine (cspace_any F5.out.1.sd.chk).mono ?_
      rintro e w4 ⟨rfl, b4⟩
      have F4 := Lib.hid (show Ip (fun x => D x ∨ x = g8) Q w0 w3 w4 s a b c P Z Q k p kd o (⟨rp, rn⟩ :: L) (some ⟨g, 0, none⟩) cc ∧ Box4 w4 g8 (.int .i64 0) (.int .i64 0) (.int .u64 0) (.int .u64 0) ∧ ¬ Q g8 ∧ w3.heap.size ≤ g8 from ⟨F5.out.1.below b4, F5.out.2.1.below b4, F5.out.2.2⟩)
      clear b4
      clear z0 z1 z2 z3 f0 f1 f2 f3
      have z0 := F4.out.2.1.c0
      have z1 := F4.out.2.1.c1
      have z2 := F4.out.2.1.c2
      have z3 := F4.out.2.1.c3
      have f0 := F4.out.2.1.fz 0
      have f1 := F4.out.2.1.fz 1
      have f2 := F4.out.2.1.fz 2
      have f3 := F4.out.2.1.fz 3
      go_wp2_with fail
      refine hK.out _ _ ?_ (fun hHeld => ?_)
      · exact HC.out _ F4.out.1.kp
      clear hK K
      (try simp only [Act.put, List.setIfInBounds_toArray, List.set_cons_zero, List.set_cons_succ])
      refine rdA (rs := [5]) (by decide +kernel) ?_ rfl
      refine rcA (some 29) (Op.call { callee := Callee.value (Operand.func 14), args := #[Operand.tmp 26, Operand.tmp 28], argTypes := #[44, 3] }) 42 rfl (by kernel_rfl) (fun K hK => ?_) ?_
      ·go_simp
       have RR := RD.out _ (fun x => D x ∨ x = g8) _ F4.out.1.sd.chk.st
       refine RR.mono ?_
       rintro e w6 ⟨rfl, hh, hk6⟩
       obtain ⟨Q6, hQ6⟩ : ∃ x, x = Wid Q w4 w6 := ⟨_, rfl⟩
       have F6 := Lib.hid (show Ip (fun x => D x ∨ x = g8) Q w0 w3 w6 s a b c P { Z with u := Z.u + 1 } Q6 k p kd o (⟨rp, rn⟩ :: L) (some ⟨g, 0, none⟩) cc ∧ Box4 w6 g8 (.int .i64 0) (.int .i64 0) (.int .u64 0) (.int .u64 0) ∧ ¬ Q6 g8 ∧ w3.heap.size ≤ g8 from ⟨by rw [hQ6]; exact F4.out.1.part hh hk6 (fun x e => e.imp id (fun e => e.1)), F4.out.2.1.kept hk6 F4.out.2.2.1, fun e => by
         rw [hQ6] at e
         have := F4.out.2.1.lt
         exact e.elim F4.out.2.2.1 (fun e => by omega), F4.out.2.2.2⟩)
       clear hh hk6 hQ6 RR
       clear z0 z1 z2 z3 f0 f1 f2 f3
       have z0 := F6.out.2.1.c0
       have z1 := F6.out.2.1.c1
       have z2 := F6.out.2.1.c2
       have z3 := F6.out.2.1.c3
       have f0 := F6.out.2.1.fz 0
       have f1 := F6.out.2.1.fz 1
       have f2 := F6.out.2.1.fz 2
       have f3 := F6.out.2.1.fz 3
       go_wp2_with fail
       refine hK.out _ _ ?_ (fun hHeld => ?_)
       · exact HC.out _ F6.out.1.kp
       clear hK K
       (try simp only [Act.put, List.setIfInBounds_toArray, List.set_cons_zero, List.set_cons_succ])
       refine tkC 6 (some 23) (Op.move (Operand.tmp 29)) 42 (v := ?_) rfl (by decide +kernel) (by kernel_rfl) ?_ ‹_› ?_
       rotate_left
       ·(intro w hSw; (try dsimp only at hSw); go_simp) <;> with_reducible rfl
       (try simp only [Act.put, List.setIfInBounds_toArray, List.set_cons_zero, List.set_cons_succ])
       refine tkC 7 (some 30) (Op.extract (Operand.tmp 23) 0) 41 (v := ?_) rfl (by decide +kernel) (by kernel_rfl) ?_ ‹_› ?_
       rotate_left
       ·(intro w hSw; (try dsimp only at hSw); go_simp) <;> with_reducible rfl
       (try simp only [Act.put, List.setIfInBounds_toArray, List.set_cons_zero, List.set_cons_succ])
       refine tkC 8 (some 31) (Op.extract (Operand.tmp 23) 1) 30 (v := ?_) rfl (by decide +kernel) (by kernel_rfl) ?_ ‹_› ?_
       rotate_left
       ·(intro w hSw; (try dsimp only at hSw); go_simp) <;> with_reducible rfl
       (try simp only [Act.put, List.setIfInBounds_toArray, List.set_cons_zero, List.set_cons_succ])
       refine rdA (rs := [10]) (by decide +kernel) ?_ rfl
       refine rcA none (Op.store 41 (Operand.tmp 8) (Operand.tmp 30)) 0 rfl (by kernel_rfl) (fun K hK => ?_) ?_
       ·go_simp
        have F7 := Lib.hid (And.intro (F6.out.1.stored (g8 := g8) (.inr rfl) F6.out.2.2.2 (fun e => by have := H3.out.1.pl.bx.lt; have := F6.out.2.2.2; omega) (fun e => by have := H3.out.1.pl.lt _ (.inr e); have := F6.out.2.2.2; omega) (.int .i64 rn) (.int .i64 (kk : Int)) (.int .u64 (oo : Int)) (.int .u64 (nn : Int))) (And.intro (F6.out.2.1.set (.int .i64 rn) (.int .i64 (kk : Int)) (.int .u64 (oo : Int)) (.int .u64 (nn : Int))) F6.out.2.2))
        generalize World.setCell _ ⟨g8, 3, none⟩ (.int .u64 (nn : Int)) = w7 at *
        clear z0 z1 z2 z3 f0 f1 f2 f3
        refine hK.out _ _ ?_ (fun hHeld => ?_)
        · exact HC.out _ F7.out.1.kp
        clear hK K
        (try simp only [Act.put, List.setIfInBounds_toArray, List.set_cons_zero, List.set_cons_succ])
        refine tkC 11 (some 9) (Op.assign (Operand.tmp 31)) 30 (v := ?_) rfl (by decide +kernel) (by kernel_rfl) ?_ ‹_› ?_
        rotate_left
        ·(intro w hSw; (try dsimp only at hSw); go_simp) <;> with_reducible rfl
        (try simp only [Act.put, List.setIfInBounds_toArray, List.set_cons_zero, List.set_cons_succ])
        refine wpAnyH_done (by kernel_rfl) ?_ _
        refine NoPanic.normal ?_
        go_wp2_with fail
        go_meet
        exact ⟨g8, rfl, rfl, Lib.hid ⟨Q6, _, F7.out.1, F7.out.2.1, F7.out.2.2.1, F7.out.2.2.2, fun x e => .inl e⟩⟩
       exact AllReadyH.nil
      exact AllReadyH.nil
     exact AllReadyH.nil
    exact AllReadyH.nil
  case rest =>
    obtain ⟨g8, rfl, rfl, HW⟩ := hcut
    generalize wc = w4 at *
    obtain ⟨Q5, D5, hW⟩ := HW.out
    have H4 := Lib.hid hW
    clear hW HW
    have k0 := (HC.out _ H4.out.1.kp).1
    have k1 := (HC.out _ H4.out.1.kp).2
    go_wp2_with fail
    refine (cput_any H4.out.1.sd.chk HL.out.2.1 (by have := HL.out.2.2; simp only; omega) rp rn HI.out).mono ?_
    rintro e w6 ⟨rfl, h6, k6⟩
    have v5l := lt_of_cell X3.out.2.2.1
    have H6 := Lib.hid (show Ip D5 Q w0 w3 w6 s a b c P (Z.pop P ⟨rp, rn⟩) (Wid Q5 w4 w6) (k + 1) p kd o (⟨rp, rn⟩ :: L) (some ⟨g, 0, none⟩) cc ∧ Box4 w6 g8 (.int .i64 rn) (.int .i64 (kk : Int)) (.int .u64 (oo : Int)) (.int .u64 (nn : Int)) ∧ g8 ≠ p ∧ v5 ≠ p ∧ w6.cell? ⟨v5, 0, none⟩ = some (.int .i64 rp) ∧ (∀ x, D x → D5 x) from
      ⟨H4.out.1.call h6 k6, H4.out.2.1.kept k6 H4.out.2.2.1, fun e => by have := H3.out.1.pl.bx.lt; have := H4.out.2.2.2.1; omega, fun e => by have := H0.out.pl.bx.lt; have := H3.out.2.2.2; omega, (HC.out _ (H4.out.1.call h6 k6).kp).2, H4.out.2.2.2.2⟩)
    clear h6 k6 k0 k1 v5l H4
    obtain ⟨n, hn⟩ : ∃ z, z = (M.R.mk rp rn :: L).length := ⟨_, rfl⟩
    obtain ⟨m, hm⟩ : ∃ z, z = L.length := ⟨_, rfl⟩
    have hnm : n = m + 1 := by rw [hn, hm]; rfl
    have c3 : w6.cell? ⟨p, 3, none⟩ = some (.slice (some ⟨g, 0, none⟩) n cc) := by rw [hn]; exact H6.out.1.pl.bx.c3
    have f3 := H6.out.1.pl.bx.fz 3
    have hs1 : wrap64 ((n : Int) - 1) = (m : Int) := by have := HL.out.1; unfold wrap64; omega
    have hs2 : IntKind.i64.wrap ((n : Int) - 1) = (m : Int) := by have := HL.out.1; rw [IntWalk.i64_in _ (by omega)]; omega
    have hcut := rcut14_both g n cc m (by have := H6.out.1.pl.vw.cap; simp at this; omega)
    have HM := Lib.hid (And.intro hm hn)
    have q := Pil.pop H6.out.1.sd H6.out.1.pl
    rw [← hm] at q
    obtain ⟨w7, hw7⟩ : ∃ z, z = w6.setCell ⟨p, 3, none⟩ (.slice (some ⟨g, 0, none⟩) m m) := ⟨_, rfl⟩
    rw [← hw7] at q
    have d0 := (H6.out.2.1.kept q.2.2 H6.out.2.2.1).c0
    have d5 := q.2.2.cell_some H6.out.2.2.2.2.1 H6.out.2.2.2.1
    have H7 := Lib.hid (And.intro q.1 (And.intro q.2.1 (show Kept w w7 (fun x => Q x ∨ x = p) ∧ (∀ x, D x → D5 x) ∧ (∀ x, Wid Q5 w4 w6 x → Q x ∨ w.heap.size ≤ x) from ⟨(H3.out.2.2.1.trans H6.out.1.kp (fun _ _ e => e)).trans' q.2.2, H6.out.2.2.2.2.2, fun x hx => (H6.out.1.qq x hx).imp id (fun e => Nat.le_trans H3.out.2.2.1.size e)⟩)))
    clear hn hm hnm q
    go_upto_region 13 with fail
    rw [← hw7]
    clear hw7 c3 f3 hs1 hs2 hcut
    go_quiet (fail)
    go_wp2_with fail
    go_ret3
    exact ⟨rfl, _, _, D5, H7.out.1.below (below_drewN' (Below.refl _ _) _), H7.out.2.1.below (below_drewN' (Below.refl _ _) _), H7.out.2.2.1.drewN _, H7.out.2.2.2⟩
end
end Go.Proofs.Ytmagdhcpbofkbaa
/-
  A pile, by the program: Pages, Cut.
-/
namespace Go.Proofs.Ytmagdhcpbofkbaa
open Go.ChangeShapes Go.WideShapes Go.ChangeAt Go.RowKit Go.Deep
set_option linter.unusedVariables false
set_option maxRecDepth 20000

theorem tot14 {l : List M.R} (h : ∀ r ∈ l, 0 ≤ r.n ∧ r.n ≤ 1048576) : 0 ≤ M.total l ∧ M.total l ≤ (l.length : Int) * 1048576 := by
  induction l with
  | nil => simp [M.total]
  | cons r l ih =>
    have h1 := h r (List.mem_cons_self ..)
    have h2 := ih (fun s hs => h s (List.mem_cons_of_mem _ hs))
    rw [M.total_cons, List.length_cons]
    omega
section
variable {D Q : Nat → Prop} {w0 w : World} {p s o cc a b c P k g k1 o1 k2 o2 : Nat} {kd : Int} {L L2 G : List M.R} {r : M.R} {A : Option Addr} {Z : St}
set_option maxHeartbeats 4000000 in
theorem ppages_any (h : Pil D w0 w p s kd o L A cc) (hl : L.length ≤ 100000) (hn : ∀ r ∈ L, 0 ≤ r.n ∧ r.n ≤ 1048576) : Calls Try.prog 18 #[.pointer (some ⟨p, 0, none⟩)] w fun e w' => e = .returned (.int .i64 (M.total L)) ∧ Below w.heap.size w w' := by
  obtain ⟨z, hz⟩ : ∃ z, z = L.length := ⟨_, rfl⟩
  obtain ⟨l, hl'⟩ : ∃ l, l = L.reverse := ⟨_, rfl⟩
  have HZ := Lib.hid (show z = l.length by rw [hl', List.length_reverse, hz])
  have HA := Lib.hid (show Runs w A l from by rw [hl']; exact h.vw.runs)
  have HT := Lib.hid (show M.total L = M.total l ∧ (∀ r ∈ l, 0 ≤ r.n ∧ r.n ≤ 1048576) ∧ z ≤ 100000 from ⟨M.total_perm (by rw [hl']; exact (List.reverse_perm L).symm), fun r hr => hn r (by rw [hl'] at hr; exact List.mem_reverse.1 hr), by omega⟩)
  have c3 : w.cell? ⟨p, 3, none⟩ = some (.slice A z cc) := by rw [hz]; exact h.bx.c3
  clear h hl hn hz hl'
  go_enter Try.func18, Try.ntmps18
  go_wp2_with fail
  clear c3
  go_loopw [3, 13] (fun t i wr => ∃ k : Nat, k ≤ z ∧ i = .int .i64 (k : Int) ∧ t = .int .i64 (M.total (l.take k)) ∧ Below w.heap.size w wr) (fun t i _ => z - (intOf i).toNat)
  case atStart => exact ⟨0, by omega, rfl, rfl, Below.refl _ _⟩
  case round =>
    obtain ⟨k, hk, rfl, rfl, hb⟩ := hrel
    have HB := Lib.hid hb
    clear hb
    obtain ⟨T, hT⟩ : ∃ T, T = M.total (l.take k) := ⟨_, rfl⟩
    rw [← hT]
    have HT2 := Lib.hid hT
    clear hT
    by_cases hlt : k < z
    · have hkl : k < l.length := by have := HZ.out; omega
      obtain ⟨bl, o, rfl, hc⟩ := HA.out (by omega)
      have c0 := (hc k hkl).1
      have c1 := (hc k hkl).2
      have bn := HT.out.2.1 l[k] (List.getElem_mem hkl)
      obtain ⟨x, hx⟩ : ∃ x, x = l[k] := ⟨_, rfl⟩
      rw [← hx] at c0 c1 bn
      have b1 := tot14 (l := l.take k) (fun r hr => HT.out.2.1 r (List.mem_of_mem_take hr))
      have e1 := M.total_take_succ l k hkl
      rw [← hx] at e1
      rw [← HT2.out] at b1 e1
      obtain ⟨q, hp⟩ : ∃ p, p = x.p := ⟨_, rfl⟩
      obtain ⟨n, hn⟩ : ∃ n, n = x.n := ⟨_, rfl⟩
      rw [← hp] at c0
      rw [← hn] at c1 e1 bn
      have s1 : wrap64 (T + n) = T + n := by
        have h1 : (l.take k).length ≤ 100000 := by rw [List.length_take]; have := HT.out.2.2; omega
        have h2 : ((l.take k).length : Int) * 1048576 ≤ 100000 * 1048576 := by omega
        unfold wrap64; omega
      have HE := Lib.hid e1
      have d0 := (HB.out.cell (lt_of_cell c0)).trans c0
      have d1 := (HB.out.cell (lt_of_cell c1)).trans c1
      have hk5 : k < 100000 ∧ z ≤ 100000 := by have := HT.out.2.2; omega
      clear hx b1 e1 hp hn hc c0 c1 hk bn
      go_wp2_with fail
      go_roundw
      case rel => exact ⟨k + 1, by omega, by go_num, by rw [HE.out, s1], HB.out.alloc HB.out.size _⟩
      case measure => simp [intOf]; omega
    · go_wp2_with fail
      go_ret
      have e : l.take k = l := List.take_of_length_le (by have := HZ.out; omega)
      exact ⟨ret1 (by rw [HT2.out, e, HT.out.1]), HB.out⟩
theorem ppages_nil (w : World) : Calls Try.prog 18 #[.pointer none] w fun e w' => e = .returned (.int .i64 0) ∧ w = w' := by
  go_enter Try.func18, Try.ntmps18
  go_wp2_with fail
  go_ret
  exact ⟨rfl, rfl⟩

/-- What so many Pops come to. -/
def popsZ (P : Nat) : St → List M.R → Nat → St
  | Z, _, 0 => Z
  | Z, [], _ + 1 => Z
  | Z, r :: L, j + 1 => popsZ P (Z.pop P r) L j
theorem popsZ_succ (P : Nat) : ∀ (j : Nat) (Z : St) (L : List M.R) (h : j < L.length), popsZ P Z L (j + 1) = (popsZ P Z L j).pop P L[j]
  | 0, Z, [], h => by simp at h
  | 0, Z, r :: L, _ => by cases L <;> rfl
  | j + 1, Z, [], h => by simp at h
  | j + 1, Z, r :: L, h => by
    show popsZ P (Z.pop P r) L (j + 1) = (popsZ P (Z.pop P r) L j).pop P _
    rw [popsZ_succ P j (Z.pop P r) L (by simpa using h)]
    simp
theorem popsZ_u (P : Nat) : ∀ (j : Nat) (Z : St) (L : List M.R), (popsZ P Z L j).u ≤ Z.u + 4 * j
  | 0, Z, L => by cases L <;> exact Nat.le_refl _
  | j + 1, Z, [] => Nat.le_add_right _ _
  | j + 1, Z, r :: L => by
    have := popsZ_u P j (Z.pop P r) L
    have e : (Z.pop P r).u = Z.u + 4 := rfl
    show (popsZ P (Z.pop P r) L j).u ≤ _
    omega
theorem Duo.pops : ∀ (j : Nat) {Z : St} {L : List M.R}, Duo P Z k1 o1 L k2 o2 L2 → Duo P (popsZ P Z L j) k1 o1 (L.drop j) k2 o2 L2
  | 0, Z, L, h => by cases L <;> exact h
  | j + 1, Z, [], h => h
  | j + 1, Z, r :: L, h => Duo.pops j (Z := Z.pop P r) (L := L) h.pop
theorem pcut_neg (w : World) (A : Option Addr) (n : Int) (hn : n < 0) : Calls Try.prog 17 #[.pointer (some ⟨p, 0, none⟩), .int .i64 n] w fun e w' => e = .returned (.int .i64 1) ∧ w = w' := by
  have t : decide (n < 0) = true := by simpa using hn
  go_enter Try.func17, Try.ntmps17
  go_wp2_with fail
  go_ret
  exact ⟨rfl, rfl⟩
theorem pcut_nil (w : World) (n : Int) : Calls Try.prog 17 #[.pointer none, .int .i64 n] w fun e w' => e = .returned (.int .i64 1) ∧ w = w' := by
  go_enter Try.func17, Try.ntmps17
  go_wp2_with fail
  go_ret
  exact ⟨rfl, rfl⟩
/-- How long a pile's list is. -/
def lenAt (p : Nat) (w : World) : Nat := match w.cell? ⟨p, 3, none⟩ with
  | some (.slice _ t _) => t
  | _ => 0
set_option maxHeartbeats 8000000 in
theorem pcut_any (hs : Sd D w0 w s a b c P Z Q k) (h : Pil D w0 w p s kd o L A cc) (hd : Duo P Z k1 o1 L k2 o2 L2) (hk : k + L.length ≤ 80000) (hu : Z.u + 4 * L.length ≤ 600000000000) (hP : P ≤ 1048576) (hl : L.length ≤ 800000) (n : Int) (m : Nat) (hn : n = m) (j : Nat) (hj : j = L.length - m) :
    Calls Try.prog 17 #[.pointer (some ⟨p, 0, none⟩), .int .i64 n] w fun e w' => e = .returned (.int .i64 0) ∧ ∃ c' Q' D', Sd D' w0 w' s a b c P (popsZ P Z L j) Q' (k + j) ∧ Pil D' w0 w' p s kd o (L.drop j) A c' ∧ Kept w w' (fun x => Q x ∨ x = p) ∧ (∀ x, D x → D' x) ∧ (∀ x, Q' x → Q x ∨ w.heap.size ≤ x) := by
  subst hn
  have H0 := Lib.hid (And.intro hs h)
  have HD := Lib.hid (And.intro hd (And.intro hk (And.intro hu (And.intro hP (And.intro hl hj)))))
  have t0 : decide ((m : Int) < 0) = false := by simp
  clear hs h hd hk hu hP hl hj
  go_enter Try.func17, Try.ntmps17
  go_wp2_with fail
  clear t0
  go_loopw [5, 6, 7] (fun _ _ _ wr => ∃ (i c' : Nat) (Q' D' : Nat → Prop), i ≤ j ∧ Hid (Sd D' w0 wr s a b c P (popsZ P Z L i) Q' (k + i) ∧ Pil D' w0 wr p s kd o (L.drop i) A c' ∧ Kept w wr (fun x => Q x ∨ x = p) ∧ (∀ x, D x → D' x) ∧ (∀ x, Q' x → Q x ∨ w.heap.size ≤ x))) (fun _ _ _ wr => lenAt p wr)
  case atStart => exact ⟨0, cc, Q, D, Nat.zero_le _, Lib.hid ⟨by cases L <;> exact H0.out.1, by rw [List.drop_zero]; exact H0.out.2, Kept.refl _ _, fun x e => e, fun x e => .inl e⟩⟩
  case round =>
    obtain ⟨i, c', Q', D', hi, HI⟩ := hrel
    go_wp2_with fail
    refine (plen_any HI.out.2.1.bx).mono ?_
    rintro e w1 ⟨rfl, rfl⟩
    by_cases hlt : i < j
    · have hil : i < L.length := by have := HD.out.2.2.2.2.2; omega
      obtain ⟨r, hr⟩ : ∃ r, r = L[i] := ⟨_, rfl⟩
      have hdr : L.drop i = r :: L.drop (i + 1) := by rw [hr]; exact List.drop_eq_getElem_cons hil
      have hiv := (Duo.pops i HD.out.1).inv
      rw [hdr] at hiv
      have hpl := HI.out.2.1
      rw [hdr] at hpl
      have hle := popsZ_u P i Z L
      have hez := popsZ_succ P i Z L hil
      rw [← hr] at hez
      have hlen : (L.drop i).length = L.length - i := List.length_drop
      obtain ⟨t, ht⟩ : ∃ t, t = L.length - i := ⟨_, rfl⟩
      have hmt : m < t := by have := HD.out.2.2.2.2.2; omega
      have HC := Lib.hid (ppop_any HI.out.1 hpl (by have := HD.out.2.1; omega) (by have := HD.out.2.2.1; omega) hiv HD.out.2.2.2.1 (by rw [List.length_drop]; have := HD.out.2.2.2.2.1; omega))
      have HE := Lib.hid (And.intro hez (show lenAt p wr = L.length - i from by unfold lenAt; rw [HI.out.2.1.bx.c3, hlen]))
      clear hdr hiv hpl hle hez hr
      rw [hlen, ← ht]
      clear ht hlen
      go_wp2_with fail
      refine HC.out.mono ?_
      rintro e w2 ⟨rfl, c2, Q2, D2, h1, h2, h3, h4, h5⟩
      have HR := Lib.hid (show Sd D2 w0 w2 s a b c P (popsZ P Z L (i + 1)) Q2 (k + (i + 1)) ∧ Pil D2 w0 w2 p s kd o (L.drop (i + 1)) A c2 ∧ Kept w w2 (fun x => Q x ∨ x = p) ∧ (∀ x, D x → D2 x) ∧ (∀ x, Q2 x → Q x ∨ w.heap.size ≤ x) from
        ⟨by rw [HE.out.1]; exact h1, h2, HI.out.2.2.1.grow h3 (fun x hx => hx.elim (fun e => (HI.out.2.2.2.2 x e).imp .inl id) (fun e => .inl (.inr e))), fun x e => h4 x (HI.out.2.2.2.1 x e), fun x e => (h5 x e).elim (HI.out.2.2.2.2 x) (fun e => .inr (Nat.le_trans HI.out.2.2.1.size e))⟩)
      clear h1 h2 h3 h4 h5
      go_wp2_with fail
      go_roundw
      case rel => exact ⟨i + 1, c2, Q2, D2, hlt, HR⟩
      case measure =>
        rw [HE.out.2]
        unfold lenAt
        rw [HR.out.2.1.bx.c3, List.length_drop]
        simp only
        omega
    · have hij : i = j := by omega
      subst hij
      have hlen : (L.drop i).length = L.length - i := List.length_drop
      obtain ⟨t, ht⟩ : ∃ t, t = L.length - i := ⟨_, rfl⟩
      have hmt : t ≤ m := by have := HD.out.2.2.2.2.2; omega
      rw [hlen, ← ht]
      clear ht hlen
      go_wp2_with fail
      go_ret
      exact ⟨rfl, c', Q', D', HI.out⟩
end
end Go.Proofs.Ytmagdhcpbofkbaa
/-
  A pile, by the program: Walk.
-/
namespace Go.Proofs.Ytmagdhcpbofkbaa
open Go.ChangeShapes Go.WideShapes Go.ChangeAt Go.RowKit Go.Deep
set_option linter.unusedVariables false
set_option maxRecDepth 20000

section
variable {D Q : Nat → Prop} {w0 w : World} {p s o cc a b c P k g k1 o1 k2 o2 : Nat} {kd : Int} {L L2 G : List M.R} {r : M.R} {A : Option Addr} {Z : St}
/-- A slice's length. -/
def sl14 : Value → Nat
  | .slice _ n _ => n
  | _ => 0
/-- How far a Walk has come: i of them. -/
structure Wk (D Q : Nat → Prop) (w0 w wr : World) (s a b c P : Nat) (Z : St) (k p : Nat) (kd : Int) (o : Nat) (L : List M.R) (A : Option Addr) (cc i : Nat) (Ai : Option Addr) (ci : Nat) (Q' D' : Nat → Prop) : Prop where
  sd : Sd D' w0 wr s a b c P { Z with u := Z.u + i } Q' k
  pl : Pil D' w0 wr p s kd o L A cc
  kp : Kept w wr Q
  vw : View wr w.heap.size Ai ci (L.take i)
  dA : ∀ x, rowD Ai x → D' x
  dd : ∀ x, D x → D' x
  qq : ∀ x, Q' x → Q x ∨ w.heap.size ≤ x
  wp : ∀ x, Ow p A x → x < w.heap.size
section
variable {wr w1 w2 w7 : World} {i ci i' c1 g1 : Nat} {Ai : Option Addr} {Q' D' Q2 : Nat → Prop} {k' : Nat}
theorem Wk.below (h : Wk D Q w0 w wr s a b c P Z k p kd o L A cc i Ai ci Q' D') (hb : Below wr.heap.size wr w1) : Wk D Q w0 w w1 s a b c P Z k p kd o L A cc i Ai ci Q' D' :=
  ⟨h.sd.below hb, h.pl.below hb, h.kp.trans (Kept.of_below hb Q) (fun _ _ e => e), h.vw.below hb, h.dA, h.dd, h.qq, h.wp⟩
/-- One more header was read, and its run is appended. -/
theorem Wk.next (h : Wk D Q w0 w wr s a b c P Z k p kd o L A cc i Ai ci Q' D') (h2 : Sto D' w0 w1 a b c P { Z with u := Z.u + (i + 1) } Q2 k) (hk : Kept wr w1 Q') (hq : ∀ x, Q2 x → Q' x ∨ wr.heap.size ≤ x) :
    Sd D' w0 w1 s a b c P { Z with u := Z.u + (i + 1) } (Wid Q' wr w1) k ∧ Pil D' w0 w1 p s kd o L A cc ∧ Kept w w1 Q ∧ View w1 w.heap.size Ai ci (L.take i) ∧ (∀ x, Wid Q' wr w1 x → Q x ∨ w.heap.size ≤ x) :=
  ⟨h.sd.part h2 hk hq, h.pl.call h.sd hk, h.kp.grow hk h.qq, h.vw.kept hk (fun x hx => (h.sd.off x (h.dA x hx)).1), fun x hx => hx.elim (h.qq x) (fun e => .inr (Nat.le_trans h.kp.size e.1))⟩
theorem Wk.app (h : Wk D Q w0 w wr s a b c P Z k p kd o L A cc i Ai ci Q' D') {Z2 : St} (hs : Sd D' w0 w1 s a b c P { Z with u := Z.u + i' } Q2 k) (hp : Pil D' w0 w1 p s kd o L A cc) (hk : Kept w w1 Q) (hq : ∀ x, Q2 x → Q x ∨ w.heap.size ≤ x)
    (hv : View w7 w.heap.size (some ⟨g1, 0, none⟩) c1 (L.take i')) (hg : rowD Ai g1 ∨ w1.heap.size ≤ g1) (h7 : Kept w1 w7 (rowD Ai)) (hA : ∀ x, rowD Ai x → w.heap.size ≤ x) : Wk D Q w0 w w7 s a b c P Z k p kd o L A cc i' (some ⟨g1, 0, none⟩) c1 Q2 (fun x => D' x ∨ x = g1) := by
  have one : ∀ x, rowD (some ⟨g1, 0, none⟩) x → x = g1 := fun x hx => by obtain ⟨ad, e, rfl⟩ := hx; cases e; rfl
  have gl := (hv.low (x := g1) ⟨_, rfl, rfl⟩).2
  refine ⟨hs.side h7 h.dA (fun x hx => ?_), (hp.kept h7 (fun x hx e => ?_)).more (fun x e => .inl e), hk.grow h7 (fun x e => .inr (hA x e)), hv, fun x hx => .inr (one x hx), fun x e => .inl (h.dd x e), hq, h.wp⟩
  · rcases hx with hx | rfl
    · exact .inl hx
    · rcases hg with e | e
      · exact .inl (h.dA _ e)
      · exact .inr ⟨e, gl⟩
  · have := hA x e; have := h.wp x hx; omega
end
set_option maxHeartbeats 16000000 in
theorem pwalk_any (hs : Sd D w0 w s a b c P Z Q k) (h : Pil D w0 w p s kd o L A cc) (hd : Duo P Z k1 o1 L k2 o2 L2) (hk : k ≤ 80000) (hu : Z.u + L.length ≤ 600000000000) (hP : P ≤ 1048576) (hl : L.length ≤ 800000) :
    Calls Try.prog 11 #[.pointer (some ⟨p, 0, none⟩)] w fun e w' => ∃ t Ai ci Q' D', e = .returned (.tuple #[.slice Ai t ci, .int .i64 0]) ∧ t = L.length ∧ Wk D Q w0 w w' s a b c P Z k p kd o L A cc t Ai ci Q' D' := by
  obtain ⟨n, hn⟩ : ∃ n, n = L.length := ⟨_, rfl⟩
  have hpos : ∀ r ∈ L, 0 ≤ r.p ∧ r.p ≤ 1048576 := fun r hr => by have := hd.inv.in (List.mem_append.2 (.inl hr)); omega
  have H0 := Lib.hid (And.intro hs h)
  have HD := Lib.hid (And.intro hd (And.intro hk (And.intro hu (And.intro hP (And.intro hl hn)))))
  have HN := Lib.hid (fun W hW => pnext_any (w := W) (D := D) (w0 := w0) (p := p) (s := s) (kd := kd) (o := o) (L := L) (A := A) (c := cc) hW (by omega) hpos)
  have HRD := Lib.hid (fun (W : World) (D' Q' : Nat → Prop) (i : Nat) (hi : i < L.length) (q : Nat) (x : Int) (hx : x = q) (hq : q = L[i].p.toNat) (hW : Sto D' w0 W a b c P { Z with u := Z.u + i } Q' k) => by
    have hst := hd.c1.at i hi
    have hin := hd.inv.in (List.mem_append.2 (.inl (List.getElem_mem hi)))
    exact st_read hW x q L[i].n.toNat k1 o1 (nx (L.drop (i + 1))) hx (by omega) (by rw [hq]; exact hst) (by simp only; omega))
  clear hs h hd hk hu hP hl hn hpos
  go_enter Try.func11, Try.ntmps11
  go_wp2_with fail
  refine (HN.out w H0.out.2).mono ?_
  rintro e w1 ⟨rfl, b1⟩
  have HW := Lib.hid (show Wk D Q w0 w w1 s a b c P Z k p kd o L A cc 0 none 0 Q D from ⟨H0.out.1.below b1, H0.out.2.below b1, Kept.of_below b1 Q, View.none' _ _, fun x hx => absurd hx (rowD_none x), fun x e => e, fun x e => .inl e, H0.out.2.lt⟩)
  clear b1
  go_wp2_with fail
  go_loopw [4, 5] (fun tl tn wr => ∃ (i ci m : Nat) (Ai : Option Addr) (Q' D' : Nat → Prop), i ≤ n ∧ tl = .slice Ai i ci ∧ tn = .int .u64 (m : Int) ∧ m = nx (L.drop i) ∧ Hid (Wk D Q w0 w wr s a b c P Z k p kd o L A cc i Ai ci Q' D')) (fun tl _ _ => n - sl14 tl)
  case atStart => exact ⟨0, 0, _, none, Q, D, Nat.zero_le _, rfl, rfl, rfl, HW⟩
  case round =>
    clear HW
    obtain ⟨i, ci, m, Ai, Q', D', hi, rfl, rfl, hm, HI⟩ := hrel
    have hnL := HD.out.2.2.2.2.2
    by_cases hlt : i < n
    · have hil : i < L.length := by omega
      have hin := HD.out.1.inv.in (List.mem_append.2 (.inl (List.getElem_mem hil)))
      obtain ⟨r, hr⟩ : ∃ r, r = L[i] := ⟨_, rfl⟩
      have hst := List.take_succ_eq_append_getElem hil
      obtain ⟨q, hq⟩ : ∃ q, q = r.p.toNat := ⟨_, rfl⟩
      have hmq : m = q + 1 := by rw [hm, nx_drop hil, hq, hr]
      rw [← hr] at hin hst
      have hrp : r = ⟨(q : Int), r.n⟩ := by obtain ⟨rp, rn⟩ := r; simp only at hq hin ⊢; rw [hq]; congr 1; omega
      obtain ⟨y, hy⟩ : ∃ y, y = r.n := ⟨_, rfl⟩
      have hyn : y = (r.n.toNat : Int) := by rw [hy]; omega
      rw [← hy] at hrp
      rw [hrp] at hst
      obtain ⟨m2, hm2⟩ : ∃ m2, m2 = nx (L.drop (i + 1)) := ⟨_, rfl⟩
      have hq6 : q < 1048576 := by have := HD.out.2.2.2.1; omega
      have HQ := Lib.hid (And.intro hst (And.intro hm2 (And.intro hq6 (show i ≤ 800000 by have := HD.out.2.2.2.2.1; omega))))
      have HC := Lib.hid (fun (W : World) (hW : Sto D' w0 W a b c P { Z with u := Z.u + i } Q' k) => by
        have := HRD.out W D' Q' i hil q (q : Int) rfl (by rw [hq, hr]) hW
        rw [← hr, ← hyn, ← hm2] at this
        exact this)
      clear hm hr hst hq hrp hyn hm2 hin hy hil
      subst hmq
      have u1 : IntKind.u64.wrap (((q + 1 : Nat) : Int) - 1) = (q : Int) := by rw [wrapU]; omega
      have u2 : IntKind.i64.wrap (q : Int) = (q : Int) := IntWalk.i64_in _ (by omega)
      have u3 : wrap64 (q : Int) = (q : Int) := by unfold wrap64; omega
      have u4 : ((q : Int) + 1 != 0) = true := by simp; omega
      have u5 : IntKind.u64.wrap (q : Int) = (q : Int) := by rw [wrapU]; omega
      have c3 : wr.cell? ⟨p, 3, none⟩ = some (.slice A n cc) := by rw [hnL]; exact HI.out.pl.bx.c3
      have hi8 : i ≤ 800000 := HQ.out.2.2.2
      have HTK := Lib.hid (show i = (L.take i).length by rw [List.length_take]; omega)
      clear hnL
      have c0 := HI.out.pl.bx.c0
      go_wp2_with fail
      refine (plen_cell c3).mono ?_
      rintro e w' ⟨rfl, rfl⟩
      go_wp2_with fail
      refine (cspace_any HI.out.sd.chk).mono ?_
      rintro e w2 ⟨rfl, b2⟩
      have H2 := Lib.hid (HI.out.below b2)
      clear b2 c0 c3 u1 u2 u3 u4 u5
      go_wp2_with fail
      refine (HC.out w2 H2.out.sd.chk.st).mono ?_
      rintro e w3 ⟨rfl, hh, hk3⟩
      have hsz3 : ∀ x, rowD Ai x → w.heap.size ≤ x ∧ x < w3.heap.size := fun x hx => by have := H2.out.vw.low hx; have := hk3.size; omega
      have H3 := Lib.hid (And.intro (H2.out.next hh hk3 (fun x e => e.imp id (fun e => e.1))) hsz3)
      clear hh hk3 hsz3
      obtain ⟨w4, hw4⟩ : ∃ z, z = w3.alloc (.cells #[.int .i64 y, .int .i64 (k1 : Int), .int .u64 (o1 : Int), .int .u64 (m2 : Int)] 41) := ⟨_, rfl⟩
      have b4 : Below w3.heap.size w3 w4 := by rw [hw4]; exact (Below.refl _ _).alloc (Nat.le_refl _) _
      have x4 : Box4 w4 w3.heap.size (.int .i64 y) (.int .i64 (k1 : Int)) (.int .u64 (o1 : Int)) (.int .u64 (m2 : Int)) := by rw [hw4]; exact Box4.new _ _ _ _ _ _
      obtain ⟨w5, hw5⟩ : ∃ z, z = w4.alloc (.cells #[.int .i64 (q : Int), .int .i64 y] 34) := ⟨_, rfl⟩
      have b5 : Below w4.heap.size w4 w5 := by rw [hw5]; exact (Below.refl _ _).alloc (Nat.le_refl _) _
      have b35 := below_call b4 b5
      have X5 := Lib.hid (show Box4 w5 w3.heap.size (.int .i64 y) (.int .i64 (k1 : Int)) (.int .u64 (o1 : Int)) (.int .u64 (m2 : Int)) ∧ ¬ rowD Ai w3.heap.size ∧ View w5 w.heap.size Ai ci (L.take i) ∧ w.heap.size ≤ w5.heap.size ∧ (∀ j u, (rc [⟨(q : Int), y⟩])[j]? = some u → w5.cell? ((⟨w4.heap.size, 0, none⟩ : Addr).add j) = some u) ∧ Sd D' w0 w5 s a b c P { Z with u := Z.u + (i + 1) } (Wid Q' w2 w3) k ∧ Pil D' w0 w5 p s kd o L A cc ∧ Kept w w5 Q from
        ⟨x4.below b5, fun e => by have := (H3.out.2 _ e).2; omega, H3.out.1.2.2.2.1.below b35, Nat.le_trans H3.out.1.2.2.1.size b35.size, by rw [hw5]; exact rnew14 w4 (q : Int) y, H3.out.1.1.below b35, H3.out.1.2.1.below b35, H3.out.1.2.2.1.trans (Kept.of_below b35 Q) (fun _ _ e => e)⟩)
      have d0 := x4.c0
      have d3 := x4.c3
      clear b4 x4 b5 b35
      go_upto_region 6 with fail
      rw [← hw4]
      generalize w3.heap.size = v4 at *
      clear hw4
      go_upto_region 8 with fail
      go_wp2_with (at_builtin; rw [← hw5]; refine wpList_app_view rfl _ _ rfl w5 w.heap.size Ai i ci (L.take i) rfl HTK.out X5.out.2.2.1 _ _ (q : Int) y rfl X5.out.2.2.2.2.1 (by omega) X5.out.2.2.2.1 ?_; clear hw5; intro g1 c1 w7 hv7 hg7 hk7; (have HAP := Lib.hid (And.intro hv7 (And.intro hg7 hk7))); (have e3 := (X5.out.1.kept hk7 X5.out.2.1).c3); clear hv7 hg7 hk7 d3)
      go_roundw
      case rel =>
        have s5 := X5.out.2.2.2.2.2
        refine ⟨i + 1, c1, m2, some ⟨g1, 0, none⟩, _, _, hlt, rfl, rfl, HQ.out.2.1, Lib.hid (Wk.app (Z2 := Z) H2.out s5.1 s5.2.1 s5.2.2 H3.out.1.2.2.2.2 ?_ HAP.out.2.1 HAP.out.2.2 (fun x hx => (H3.out.2 x hx).1))⟩
        rw [HQ.out.1]
        exact HAP.out.1
      case measure => simp only [sl14]; omega
    · have hin : i = n := by omega
      subst hin
      have hm0 : m = 0 := by rw [hm]; exact nx_end (by omega)
      have u4 : ((m : Int) != 0) = false := by rw [hm0]; rfl
      clear hm hm0
      go_wp2_with fail
      go_ret2
      exact ⟨i, Ai, ci, Q', D', rfl, hnL, HI.out⟩
end
end Go.Proofs.Ytmagdhcpbofkbaa
