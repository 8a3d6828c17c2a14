/-
  A table of pairs of strings: Add.
-/
import Derived.Test.YtbkdlblpoohliaaRoomA
import Derived.StillTailTactics
namespace Go.Proofs.Ytbkdlblpoohliaa.TA
open Go.ChangeShapes Go.WideShapes Go.ChangeAt Go.RowKit Go.Deep T13
set_option linter.unusedVariables false
set_option maxRecDepth 20000

section
variable {w : World} {B t : Nat} {K : Int} {S : M.Tt Th} {Q : Nat → Prop}
set_option maxHeartbeats 4000000 in
theorem add_yes (h : Has w B t K S Q) (hok : S.Ok K) (v : Th) (hK : M.kOk K) (hl : S.s.length ≤ 1000000) :
    Calls Try.prog 31 #[.pointer (some ⟨t, 0, none⟩), (.agg #[.string (v).1, .string (v).2])] w fun e w' => e = .returned (.int .u64 (M.hpV K (S.at' : Int) (S.gn : Int))) ∧ Got w w' B t K (S.put v) Q := by
  obtain ⟨v1, v2⟩ := v
  have hfl := hok.f_le
  have hal := hok.at_le
  obtain ⟨p0, hp0⟩ : ∃ p, M.hpV K 0 0 = p := ⟨_, rfl⟩
  have e0' : p0 = K * 4611686018427387904 := by rw [← hp0, M.hpV_yes _ _ _ ⟨hK.1, hK.2, by omega⟩]; omega
  have hK1 := hK.1
  have hK2 := hK.2
  have z0' : (p0 == 0) = false := by simp; omega
  obtain ⟨a, ha⟩ : ∃ a, S.at' = a := ⟨_, rfl⟩
  obtain ⟨gn, hgn⟩ : ∃ a, S.gn = a := ⟨_, rfl⟩
  obtain ⟨p, hp⟩ : ∃ p, M.hpV K (a : Int) (gn : Int) = p := ⟨_, rfl⟩
  obtain ⟨e, he, heg, heu⟩ := M.room_at hok z0
  have hput : S.put (v1, v2) = ⟨(S.room z0).s.set a ⟨true, e.g, (v1, v2)⟩, (S.room z0).f⟩ := by
    unfold M.Tt.put
    rw [M.putAt_room hok z0, ha, heg]
    rfl
  rw [hput, ha, hgn, hp]
  rw [ha] at he hal
  rw [hgn] at heg
  obtain ⟨wb, hwb⟩ : ∃ y, y = w.alloc (.cells #[.string v1, .string v2] 68) := ⟨_, rfl⟩
  obtain ⟨b, hb⟩ : ∃ y, y = w.heap.size := ⟨_, rfl⟩
  have hbw : Below w.heap.size w wb := by rw [hwb]; exact (Below.refl _ _).alloc (Nat.le_refl _) _
  have h' := h.below hbw
  have i0 : wb.cell? ⟨b, 0, none⟩ = some (.string v1) := by rw [hwb, hb, World.cell?_alloc_mark]; rfl
  have i1 : wb.cell? ⟨b, 1, none⟩ = some (.string v2) := by rw [hwb, hb, World.cell?_alloc_mark]; rfl
  have hbq : ¬ Q b := fun e => by have := h.lt b e; omega
  have HP0 := Lib.hid hp0
  have HP := Lib.hid hp
  have HE := Lib.hid he
  have HEG := Lib.hid heg
  have HM := Lib.hid (ha ▸ room_any h' hl (by omega))
  have HH := Lib.hid h
  have HB := Lib.hid hbw
  have HQ := Lib.hid hbq
  have I0 := Lib.hid i0
  have I1 := Lib.hid i1
  obtain ⟨A, F, n, c, m, d, ht, hA, hF⟩ := h'.ex
  have c0 := ht.c0
  have hbl := lt_of_cell i0
  have HBL := Lib.hid hbl
  have HWB := Lib.hid hwb
  clear ht h h' hA hF hp0 e0' ha hgn hp he heg heu hput hK hok hbw hbq i0 i1 hbl hwb
  go_enter Try.func31, Try.ntmps31
  go_upto_region 1 with fail
  rw [← HWB.out, ← hb]
  have HBB := Lib.hid hb
  clear hb
  go_wp2_with fail
  refine (hpack_at K 0 0 p0 rfl rfl rfl (by omega) (by omega) HP0.out _).mono ?_
  rintro _ _ ⟨rfl, rfl⟩
  go_wp2_with fail
  refine HM.out.mono ?_
  rintro _ w1 ⟨rfl, g1⟩
  obtain ⟨A1, F1, n1, d1, m1, d2, t1, hA1, hF1⟩ := g1.1.ex
  obtain ⟨g, rfl, hin, _, k0, k1, k2, k3⟩ := t1.slot HE.out
  have x0 := t1.c0
  have x1 := t1.c1
  have q0 := t1.row.frozenAt (a * 4)
  have q2 := t1.row.frozenAt (a * 4 + 2)
  have q3 := t1.row.frozenAt (a * 4 + 3)
  have j0 := g1.2.cell_some I0.out HQ.out
  have j1 := g1.2.cell_some I1.out HQ.out
  have hset := tcs_use K (S.room z0).s a e (v1, v2) HE.out
  have HS := Lib.hid hset
  rw [HEG.out] at k1
  have hgf : rowD (some ⟨g, 0, none⟩) g := ⟨_, rfl, rfl⟩
  have hbg : b ≠ g := fun e => by
    have h1 := hA1 g hgf
    rcases h1 with h1 | h1
    · exact HQ.out (e ▸ h1)
    · have h2 : b < wb.heap.size := HBL.out
      omega
  have htg : t ≠ g := fun e => t1.offA (e ▸ hgf)
  have T1 := Lib.hid t1
  have G1 := Lib.hid g1
  have HA := Lib.hid hA1
  have HF := Lib.hid hF1
  clear t1 g1 hA1 hF1 hset c0
  go_upto_region 5 with fail
  have hgf : rowD (some ⟨g, 0, none⟩) g := ⟨_, rfl, rfl⟩
  have oth : ∀ (W : World) (o : Nat) (u : Value), (W.setCell ⟨g, o, none⟩ u).cell? ⟨t, 0, none⟩ = W.cell? ⟨t, 0, none⟩ ∧ (W.setCell ⟨g, o, none⟩ u).cell? ⟨b, 0, none⟩ = W.cell? ⟨b, 0, none⟩ ∧ (W.setCell ⟨g, o, none⟩ u).cell? ⟨b, 1, none⟩ = W.cell? ⟨b, 1, none⟩ := fun W o u =>
    ⟨World.cell?_setCell_other _ _ _ _ (fun e => htg (by injection e with e; exact e.symm)), World.cell?_setCell_other _ _ _ _ (fun e => hbg (by injection e with e; exact e.symm)), World.cell?_setCell_other _ _ _ _ (fun e => hbg (by injection e with e; exact e.symm))⟩
  have OTH := Lib.hid oth
  clear oth
  go_region_held3 (fun W => W.cell? ⟨t, 0, none⟩ = some (.int .i64 K) ∧ W.cell? ⟨b, 0, none⟩ = some (.string v1) ∧ W.cell? ⟨b, 1, none⟩ = some (.string v2)) (first | exact ⟨x0, j0, j1⟩ | exact ⟨(OTH.out _ _ _).1.trans x0, (OTH.out _ _ _).2.1.trans j0, (OTH.out _ _ _).2.2.trans j1⟩ | exact ⟨(OTH.out _ _ _).1.trans ((OTH.out _ _ _).1.trans x0), (OTH.out _ _ _).2.1.trans ((OTH.out _ _ _).2.1.trans j0), (OTH.out _ _ _).2.2.trans ((OTH.out _ _ _).2.2.trans j1)⟩ | exact ⟨(OTH.out _ _ _).1.trans ((OTH.out _ _ _).1.trans ((OTH.out _ _ _).1.trans x0)), (OTH.out _ _ _).2.1.trans ((OTH.out _ _ _).2.1.trans ((OTH.out _ _ _).2.1.trans j0)), (OTH.out _ _ _).2.2.trans ((OTH.out _ _ _).2.2.trans ((OTH.out _ _ _).2.2.trans j1))⟩) (fail)
  obtain ⟨w2, hw2⟩ : ∃ y, y = (((w1.setCell ⟨g, a * 4, none⟩ (.int .i64 K)).setCell ⟨g, a * 4 + 2, none⟩ (.string v1)).setCell ⟨g, a * 4 + 2 + 1, none⟩ (.string v2)).drew := ⟨_, rfl⟩
  rw [← hw2]
  have k3' : Kept w1 w2 (fun y => y = g) := by rw [hw2]; exact ((((Kept.refl w1 (fun y => y = g)).setCell (p := ⟨g, a * 4, none⟩) (fun _ => rfl) _).setCell (p := ⟨g, a * 4 + 2, none⟩) (fun _ => rfl) _).setCell (p := ⟨g, a * 4 + 2 + 1, none⟩) (fun _ => rfl) _).drew
  have hr : w2.ownsRow B 100 4 (.slice (some ⟨g, 0, none⟩) n1 d1) n1 (tcs K ((S.room z0).s.set a ⟨true, e.g, (v1, v2)⟩)) := by
    rw [hw2, HS.out]
    exact ((((T1.out.row.stored (a * 4) (.int .i64 K)).1.stored (a * 4 + 2) (.string v1)).1.stored (a * 4 + 2 + 1) (.string v2)).1)
  have t2 := T1.out.over (S' := ⟨(S.room z0).s.set a ⟨true, e.g, (v1, v2)⟩, (S.room z0).f⟩) k3' hr rfl
  have y0 : w2.drew.cell? ⟨t, 0, none⟩ = some (.int .i64 K) := t2.c0
  have y1 : w2.drew.cell? ⟨g, a * 4 + 1, none⟩ = some (.int .i64 (gn : Int)) := by
    obtain ⟨g', eg, _, _, j0, j1, _⟩ := t2.slot (i := a) (e := ⟨true, e.g, (v1, v2)⟩) (by
      show ((S.room z0).s.set a _)[a]? = _
      rw [List.getElem?_set_self (List.getElem?_eq_some_iff.1 HE.out).1])
    cases eg
    rw [← HEG.out]
    exact j1
  have RES := Lib.hid (show Got wb w2 B t K ⟨(S.room z0).s.set a ⟨true, e.g, (v1, v2)⟩, (S.room z0).f⟩ Q from G1.out.then (G1.out.1.got (k3'.mono (fun y _ e => HA.out y (e ▸ hgf))) t2 (fun y hy => .inl (HA.out y hy)) (fun y hy => .inl (HF.out y hy))))
  have RD := Lib.hid (fun N => Got.from HH.out HB.out (RES.out.more (below_drewN' (Below.refl w2.heap.size w2) N)))
  clear k3' hr t2 hw2 k0 k1 k2 k3 q0 q2 x0 x1 q3 j0 j1
  go_wp2_with fail
  go_region_with (refine (hpack_at K (a : Int) (gn : Int) p rfl rfl rfl (by omega) (by omega) HP.out _).mono ?_; rintro _ _ ⟨rfl, rfl⟩)
  all_goals
    go_wp2_with fail
    go_ret
    exact ⟨rfl, RD.out _⟩
end
end Go.Proofs.Ytbkdlblpoohliaa.TA
