/-
  'Clone' of a space.
-/
import Derived.Test.YtdchnncoddjngaaCl
import Derived.Deep.DeepCutAuto
import Derived.Deep.RegionHeld3
namespace Go.Proofs.Ytdchnncoddjngaa
open Go.ChangeShapes Go.WideShapes Go.ChangeAt Go.RowKit
open Go.Maps (Keyed)
set_option linter.unusedVariables false

/-- The step of a range over a space's pages. -/
theorem wpList_next_pages (w : World) {ops : Array Oper} {rest : List Oper} {o : Oper} {a : Act} {Q : Exit → Act → World → Prop} (hg : o.guard = none) (it : Operand) (hop : o.op = Op.next it false)
    (m r n P : Nat) (G : Pgs) (D : DataW Unit) (left : Lit → Bool) (cnt : Nat) (hP : P ≤ 1048576)
    (hat : ∀ k, k < P → ∀ zd, D.atKey (keyL k) zd = match G k with | some x => .lit (.int .u64 (x.1 : Int)) | none => zd) (hkeys : ∀ kl, Maps.has D kl = true → ∃ k, k < P ∧ kl = keyL k)
    (hit : a.eval it = .pointer (some ⟨r, 0, none⟩)) (h : w.ranges Try.prog 68 pageEl m r n D left cnt)
    (hDone : (∀ kl, left kl = false) → wpList Try.prog ops Q rest (a.put o.dst (.tuple #[.bool false])) w)
    (hMore : ∀ (k g : Nat) (l : List UInt8) (c : Nat) (ka kb : Int) (w' : World) (cnt' : Nat), k < P → G k = some (g, l) → left (keyL k) = true → 4096 ≤ c → keyV k = .agg #[.int .i64 ka, .int .i64 kb] →
      w'.ranges Try.prog 68 pageEl m r n D (fun z => left z && !z.sameKey (keyL k)) cnt' → cnt' < cnt → w.grownBy w' (some r) → w'.heap.size = w.heap.size →
      (Instr.entry (.pointer (some ⟨r, 0, none⟩))).run Try.prog w' = .ok (.tuple #[.agg #[.int .i64 ka, .int .i64 kb], .slice (some ⟨g, 0, none⟩) 4096 c]) w' →
      wpList Try.prog ops Q rest (a.put o.dst (.tuple #[.bool true, .agg #[.int .i64 ka, .int .i64 kb], .slice (some ⟨g, 0, none⟩) 4096 c])) w') :
    wpList Try.prog ops Q (o :: rest) a w := by
  refine wpList_plain hg fun K' hK' => ?_
  unfold Oper.wp
  rcases h.next keyed o.type with ⟨h0, hl, hrun⟩ | ⟨key, v, kl, y, w', cnt', hkey, hlk, hv, hatk, hrun, hrg, hlt, hgr, hsz, hen⟩
  · simp [execOp, hop, hit, hrun, Result.andThen]
    exact hK' _ _ (hDone hl)
  · obtain ⟨k, hk, rfl⟩ := hkeys kl (Maps.has_true_of_atKey hatk)
    have hkv : key = keyV k := keyed.inj hkey (key_of k (by omega))
    subst hkv
    rcases hG : G k with _ | ⟨g, l⟩
    · have e1 := (hat k hk .nil).symm.trans (hatk .nil)
      have e2 := (hat k hk (.lit (.bool true))).symm.trans (hatk (.lit (.bool true)))
      rw [hG] at e1 e2
      simp only at e1 e2
      rw [← e1] at e2
      cases e2
    · have e1 := (hat k hk .nil).symm.trans (hatk .nil)
      rw [hG] at e1
      simp only at e1
      obtain ⟨c, rfl, hc⟩ := pageEl_lit (ps := y.2) (g := g) (v := v) (by rw [hv, e1])
      simp [execOp, hop, hit, hrun, Result.andThen]
      exact hK' _ _ (hMore k g l c _ _ w' cnt' hk hG hlk hc rfl hrg hlt hgr hsz hen)

/-- What is cloned so far. -/
structure Cloning (w wr : World) (c mc m r P : Nat) (G : Pgs) (D : DataW Unit) (left : Lit → Bool) (cnt : Nat) (Gc : Pgs) : Prop where
  rg : wr.ranges Try.prog 68 pageEl m r (Maps.size D) D left cnt
  sp : IsSp wr c mc P 0 Gc
  yet : ∀ k, k < P → left (keyL k) = true → Gc k = none
  done : ∀ k, k < P → left (keyL k) = false → (Gc k).map (·.2) = (G k).map (·.2)
  bel : Below w.heap.size w wr
  mine : ∀ b, Mine c mc Gc b → w.heap.size ≤ b ∧ b ≠ r
  rle : w.heap.size ≤ r

theorem Cloning.step {w wr w4 w5 w6 : World} {s T c mc m r P : Nat} {G : Pgs} {D : DataW Unit} {left : Lit → Bool} {cnt cnt' : Nat} {Gc : Pgs} (h : Cloning w wr c mc m r P G D left cnt Gc) (hs : IsSp w s m P T G) (k g g5 : Nat) (l : List UInt8) (hk : k < P) (hG : G k = some (g, l))
    (k4 : Kept wr w4 (fun b => b = r)) (h4 : w4.ranges Try.prog 68 pageEl m r (Maps.size D) D (fun z => left z && !z.sameKey (keyL k)) cnt') (b5 : Below w4.drew.heap.size w4.drew w5) (hg : w4.drew.heap.size ≤ g5)
    (i6 : IsSp w6 c mc P 0 (setG Gc k (g5, l))) (g6 : w5.grownBy w6 (some mc)) : Cloning w w6 c mc m r P G D (fun z => left z && !z.sameKey (keyL k)) cnt' (setG Gc k (g5, l)) := by
  have hmlt := hs.mlt
  have hP := hs.top
  have hmc := h.mine mc (Or.inr (Or.inl rfl))
  have h4r := h4.lt
  have z4 : w4.drew.heap.size = w4.heap.size := rfl
  have hwr := h.bel.size
  have hk4 := k4.size
  have hle := h.rle
  have gr5 : w4.drew.grownBy w5 none := ⟨b5.os, b5.tape, b5.output, b5.size, fun i hi _ => b5.block i hi⟩
  have rg4 : w4.drew.ranges Try.prog 68 pageEl m r (Maps.size D) D (fun z => left z && !z.sameKey (keyL k)) cnt' := h4
  have bel4 : Below w.heap.size w w4.drew := (h.bel.trans (k4.below hwr (fun i e => by omega))).drew
  have k56 : Kept w4.drew w6 (fun b => b = mc) := (Kept.of_below b5 (fun b => b = mc)).grown g6 (fun b e _ => by injection e with e; exact e.symm)
  refine ⟨(rg4.kept gr5 (by simp) (by simp)).kept g6 (fun e => ?_) (fun e => ?_), i6, fun j hj hl => ?_, fun j hj hl => ?_, bel4.trans (k56.below (by omega) (fun i e => by omega)), fun b hb => ?_, h.rle⟩
  · injection e with e; omega
  · injection e with e; exact hmc.2 e.symm
  · simp only [Bool.and_eq_true] at hl
    have hjk : j ≠ k := fun e => by
      subst e
      rw [WideAt.sameKey_self (keyed.key (key_of j (by omega)))] at hl
      simp at hl
    rw [setG_other Gc _ hjk]
    exact h.yet j hj hl.1
  · by_cases hjk : j = k
    · subst hjk
      rw [setG_same, hG]
      rfl
    · rw [setG_other Gc _ hjk]
      refine h.done j hj ?_
      rw [Maps.sameKey_ne (fun e => hjk (keyL_inj (by omega) (by omega) e))] at hl
      simpa using hl
  · rcases hb.of_setG with hb | rfl
    · exact h.mine b hb
    · exact ⟨by omega, by omega⟩

theorem clone_ok {w : World} {s m P T : Nat} {G : Pgs} (h : IsSp w s m P T G) :
    Calls Try.prog 27 #[.pointer (some ⟨s, 0, none⟩)] w fun e w' => ∃ c, e = .returned (.pointer (some ⟨c, 0, none⟩)) ∧ ∃ mc Gc, IsSp w' c mc P 0 Gc ∧ bytesOf Gc = bytesOf G ∧ (∀ b, Mine c mc Gc b → w.heap.size ≤ b) ∧ Below w.heap.size w w' := by
  have hpos := h.pos
  have htop := h.top
  obtain ⟨D, hD⟩ := h.map
  have c0 := h.c0
  have c1 := h.c1
  have hslt := h.slt
  have HH := Lib.hid h
  have HD := Lib.hid hD
  clear h hD
  go_enter Try.func27, Try.ntmps27
  go_wp2_with fail
  refine (new_any (P : Int) P (by omega) _).mono ?_
  rintro e w1 ⟨c, mc, rfl, i1, n1, n2, b1⟩
  have c1' : w1.cell? ⟨s, 1, none⟩ = some (.map (some m)) := (b1.cell (p := ⟨s, 1, none⟩) hslt).trans c1
  have own1 := (HD.out.kept (b1.block m HH.out.mlt)).own
  go_wp2_with (first | (at_range; refine wpList_range_own _ rfl _ 61 rfl 68 32 keyed Try.underlying61 pageEl m (Maps.size D) D rfl own1 ?_; intro w2 hrg0 hg0 hs0) | fail)
  go_frame
  have k2 : Kept w1 w2 (fun _ => False) := (Kept.refl w1 (fun _ => False)).grown hg0 (fun b e _ => by cases e)
  have st : Cloning w w2 c mc m w1.heap.size P G D (Maps.has D) (Maps.size D) (fun _ => none) := by
    refine ⟨hrg0, i1.kept k2 (fun _ _ h => h), fun _ _ _ => rfl, fun k hk hl => ?_, b1.trans (k2.below b1.size (fun _ h => h.elim)), fun b hb => ⟨?_, fun e => ?_⟩, b1.size⟩
    · have hat := HD.out.at' k hk
      rcases hG : G k with _ | ⟨g, l⟩
      · rfl
      · rw [hG] at hat
        rw [Maps.has_true_of_atKey hat] at hl
        cases hl
    · rcases hb with rfl | rfl | ⟨k, l, e⟩
      · exact n1
      · exact n2
      · cases e
    · have := i1.mine_lt hb
      omega
  have ST := Lib.hid st
  clear st hrg0 hg0 hs0 k2 own1 c1' i1 n1 n2 b1
  generalize w1.heap.size = r at *
  go_loopw [5] (fun _ wr => ∃ left cnt Gc, Cloning w wr c mc m r P G D left cnt Gc) (fun _ wr => wr.rangeLeft m r)
  case atStart => exact ⟨_, _, _, ST.out⟩
  case round =>
    obtain ⟨left, cnt, Gc, hc⟩ := hrel
    have HC := Lib.hid hc
    clear hc
    go_wp2_with (first | (at_next; refine wpList_next_pages _ rfl _ rfl m r (Maps.size D) P G D left cnt htop HD.out.at' HD.out.keys rfl HC.out.rg ?_ ?_) | fail)
    · intro hl
      go_wp2
      go_ret
      have hC := HC.out
      refine ⟨c, rfl, mc, Gc, hC.sp, ?_, fun b hb => (hC.mine b hb).1, hC.bel⟩
      unfold bytesOf
      congr 1
      funext k
      by_cases hk : k < P
      · exact hC.done k hk (hl _)
      · have e1 : Gc k = none := by
          rcases e : Gc k with _ | ⟨g, l⟩
          · rfl
          · exact absurd (hC.sp.page k g l e).1 hk
        have e2 : G k = none := by
          rcases e : G k with _ | ⟨g, l⟩
          · rfl
          · exact absurd (HH.out.page k g l e).1 hk
        rw [e1, e2]
    · intro k g l pc ka kb w3 cnt3 hk hG hlk hpc hkv hrg3 hlt3 hgr3 hsz3 hen3
      have HE := Lib.hid (show _ ∧ _ ∧ _ ∧ _ ∧ _ ∧ _ ∧ _ from ⟨hG, hlk, hkv, hrg3, hlt3, hgr3, hsz3⟩)
      clear hG hlk hkv hrg3 hlt3 hgr3 hsz3
      go_wp2_with fail
      clear hen3
      have k34 : Kept wr (w3.alloc (.cells #[.int .i64 ka, .int .i64 kb] 68)) (fun b => b = r) := ((Kept.refl wr (fun b => b = r)).grown HE.out.2.2.2.2.2.1 (fun b e _ => by injection e with e; exact e.symm)).alloc _
      have hk0 := (World.cell?_alloc_mark w3 #[.int .i64 ka, .int .i64 kb] 68 (0, 0) 0)
      have hk1 := (World.cell?_alloc_mark w3 #[.int .i64 ka, .int .i64 kb] 68 (0, 0) 1)
      have hr4 := HE.out.2.2.2.1.alloc (.cells #[.int .i64 ka, .int .i64 kb] 68)
      have hs4 : (w3.alloc (.cells #[.int .i64 ka, .int .i64 kb] 68)).heap.size = w3.heap.size + 1 := by simp
      generalize hw4 : w3.alloc (.cells #[.int .i64 ka, .int .i64 kb] 68) = w4 at *
      clear hw4
      have hC := HC.out
      have i4 := hC.sp.kept k34 (fun b hb e => (hC.mine b hb).2 e)
      have b4 : Below w.heap.size w w4 := hC.bel.trans (k34.below hC.bel.size (fun i e => by have := hC.rle; omega))
      obtain ⟨p1, p2, p3, p4, p5, p6⟩ := HH.out.page k g l HE.out.1
      have o4 : Own w4 g l := p2.below p4 b4
      have d1 := i4.c1
      have hclt := i4.slt
      have I4 := Lib.hid (show IsSp w4 c mc P 0 Gc ∧ Below w.heap.size w w4 ∧ Own w4 g l ∧ l.length = 4096 ∧ w4.ranges Try.prog 68 pageEl m r (Maps.size D) D (fun z => left z && !z.sameKey (keyL k)) cnt3 ∧ Kept wr w4 (fun b => b = r) ∧ Gc k = none ∧ w4.heap.size = w3.heap.size + 1
        from ⟨i4, b4, o4, p3, hr4, k34, hC.yet k hk HE.out.2.1, hs4⟩)
      clear hC i4 b4 o4 p1 p2 p3 p4 p5 p6 k34 hr4
      generalize hkb : w3.heap.size = kb0 at *
      clear hkb
      have hkbl : kb0 < w4.heap.size := by omega
      clear hs4
      go_region_with (go_at_call 39
                      refine (clone_row w4.drew g 4096 pc l I4.out.2.2.2.1 (by decide) (by decide) I4.out.2.2.1.drew).mono ?_
                      rintro e w5 ⟨g5, c5, rfl, hc5, hg51, hg52, o5, b5⟩
                      have d15 : w5.cell? ⟨c, 1, none⟩ = some (.map (some mc)) := (b5.cell (p := ⟨c, 1, none⟩) hclt).trans d1
                      have k05 : w5.cell? ⟨kb0, 0, none⟩ = some (.int .i64 ka) := (b5.cell (p := ⟨kb0, 0, none⟩) hkbl).trans hk0
                      have k15 : w5.cell? ⟨kb0, 1, none⟩ = some (.int .i64 kb) := (b5.cell (p := ⟨kb0, 1, none⟩) hkbl).trans hk1
                      obtain ⟨w6, hup, i6, g6⟩ := (I4.out.1.drew.kept (Kept.of_below b5 (fun _ => False)) (fun _ _ h => h)).lay k hk I4.out.2.2.2.2.2.2.1 g5 c5 hc5 l I4.out.2.2.2.1 o5 hg52 (fun hb => by
                        have h1 := I4.out.1.mine_lt hb
                        have h2 : w4.drew.heap.size = w4.heap.size := rfl
                        omega)
                      rw [HE.out.2.2.1] at hup)
      all_goals
        have CC := Lib.hid (HC.out.step HH.out k g g5 l hk HE.out.1 I4.out.2.2.2.2.2.1 I4.out.2.2.2.2.1 b5 hg51 i6 g6)
        clear o5 b5 d15 k05 k15 hup i6 g6 hk0 hk1 d1
        go_wp2_with fail
        go_roundw
        case rel => exact ⟨_, _, _, CC.out⟩
        case measure => rw [CC.out.rg.left_eq, HC.out.rg.left_eq]; exact HE.out.2.2.2.2.1
end Go.Proofs.Ytdchnncoddjngaa
