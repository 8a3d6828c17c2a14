/-
  A table of pairs of strings: Get.
-/
import Derived.Test.YtbkdlblpoohliaaLiveA
import Derived.StillTailTactics
namespace Go.Proofs.Ytbkdlblpoohliaa.TA
open Go.ChangeShapes Go.WideShapes Go.ChangeAt Go.RowKit Go.Deep T13
set_option linter.unusedVariables false
set_option maxRecDepth 20000

section
variable {w : World} {B t : Nat} {K : Int} {S : M.Tt Th} {Q : Nat → Prop}
theorem get_some (h : Has w B t K S Q) (hh i : Nat) (hlt : hh < 18446744073709551616) (hi : S.liv K hh = some i) {x : M.Te Th} (hx : S.s[i]? = some x) :
    Calls Try.prog 33 #[.pointer (some ⟨t, 0, none⟩), .int .u64 (hh : Int)] w fun e w' => e = .returned (.tuple #[(.agg #[.string (x.v).1, .string (x.v).2]), .bool true]) ∧ Below w.heap.size w w' := by
  obtain ⟨wb, hwb⟩ : ∃ y, y = w.alloc (.cells #[.string ⟨#[]⟩, .string ⟨#[]⟩] 68) := ⟨_, rfl⟩
  obtain ⟨b, hb⟩ : ∃ y, y = w.heap.size := ⟨_, rfl⟩
  have hbw : Below w.heap.size w wb := by rw [hwb]; exact (Below.refl _ _).alloc (Nat.le_refl _) _
  have i0 : wb.cell? ⟨b, 0, none⟩ = some (.string ⟨#[]⟩) := by rw [hwb, hb, World.cell?_alloc_mark]; rfl
  have i1 : wb.cell? ⟨b, 1, none⟩ = some (.string ⟨#[]⟩) := by rw [hwb, hb, World.cell?_alloc_mark]; rfl
  have f0 : wb.frozen? ⟨b, 0, none⟩ = false := by rw [hwb, hb, World.frozen?_alloc_mark]; simp
  have f1 : wb.frozen? ⟨b, 1, none⟩ = false := by rw [hwb, hb, World.frozen?_alloc_mark]; simp
  have h' := h.below hbw
  obtain ⟨A, F, n, c, m, d, ht, hA, hF⟩ := h'.ex
  obtain ⟨g, rfl, hin, _, k0, k1, k2, k3⟩ := ht.slot hx
  have hwbb : w.heap.size ≤ b := by omega
  have HL := Lib.hid (live_some ht hh i hlt hi)
  have K2 := Lib.hid k2
  have K3 := Lib.hid k3
  have I0 := Lib.hid i0
  have I1 := Lib.hid i1
  have F0 := Lib.hid f0
  have F1 := Lib.hid f1
  have HB := Lib.hid hbw
  have HWB := Lib.hid hwb
  have HBB := Lib.hid hb
  have HWW := Lib.hid hwbb
  clear ht h h' hA hF hi k0 k1 k2 k3 i0 i1 f0 f1 hbw hwb hb hwbb
  go_enter Try.func33, Try.ntmps33
  go_upto_region 1 with fail
  rw [← HWB.out, ← HBB.out]
  go_wp2_with fail
  refine HL.out.mono ?_
  rintro _ w1 ⟨rfl, b1⟩
  have q2 := (b1.cell (lt_of_cell K2.out)).trans K2.out
  have q3 := (b1.cell (lt_of_cell K3.out)).trans K3.out
  have j0 := (b1.cell (lt_of_cell I0.out)).trans I0.out
  have j1 := (b1.cell (lt_of_cell I1.out)).trans I1.out
  have e0 : w1.frozen? ⟨b, 0, none⟩ = false := (World.frozen?_of_block (b1.block b (lt_of_cell I0.out))).trans F0.out
  have e1 : w1.frozen? ⟨b, 1, none⟩ = false := (World.frozen?_of_block (b1.block b (lt_of_cell I0.out))).trans F1.out
  have B1 := Lib.hid (below_call HB.out b1)
  clear b1
  go_wp2_with fail
  have r0 : ((w1.setCell ⟨b, 0, none⟩ (.string x.v.1)).setCell ⟨b, 1, none⟩ (.string x.v.2)).cell? ⟨b, 0, none⟩ = some (.string x.v.1) := by
    rw [World.cell?_setCell_other _ _ _ _ (by simp)]
    exact World.cell?_setCell_same _ _ _ j0
  have r1 : ((w1.setCell ⟨b, 0, none⟩ (.string x.v.1)).setCell ⟨b, 1, none⟩ (.string x.v.2)).cell? ⟨b, 1, none⟩ = some (.string x.v.2) :=
    World.cell?_setCell_same _ _ _ ((World.cell?_setCell_other _ _ _ _ (by simp)).trans j1)
  refine bodyPost_ret (v := .tuple #[(.agg #[.string (x.v).1, .string (x.v).2]), .bool true]) ?_ rfl ?_
  · simp [results, go_sem, r0, r1]
  · exact ⟨rfl, (B1.out.setCell (p := ⟨b, 0, none⟩) HWW.out _).setCell (p := ⟨b, 1, none⟩) HWW.out _⟩
end
end Go.Proofs.Ytbkdlblpoohliaa.TA
