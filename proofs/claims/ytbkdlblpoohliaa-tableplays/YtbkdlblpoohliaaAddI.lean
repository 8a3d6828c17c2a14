/-
  A table of ints: Add.
-/
import Derived.Test.YtbkdlblpoohliaaRoomI
import Derived.StillTailTactics
namespace Go.Proofs.Ytbkdlblpoohliaa.TI
open Go.ChangeShapes Go.WideShapes Go.ChangeAt Go.RowKit Go.Deep T13
set_option linter.unusedVariables false
set_option maxRecDepth 20000

section
variable {w : World} {B t : Nat} {K : Int} {S : M.Tt Th} {Q : Nat → Prop}
theorem add_no (h : Has w B t K S Q) (v : Th) (hk : -9223372036854775808 ≤ K) (hk' : K ≤ 9223372036854775807) (hn : ¬ M.kOk K) :
    Calls Try.prog 11 #[.pointer (some ⟨t, 0, none⟩), (.int .i64 (v))] w fun e w' => e = .returned (.int .u64 0) ∧ w = w' := by
  obtain ⟨A, F, n, c, m, d, ht, hA, hF⟩ := h.ex
  have c0 := ht.c0
  have hp : M.hpV K 0 0 = 0 := M.hpV_no _ _ _ (fun e => hn ⟨e.1, e.2.1⟩)
  have HP := Lib.hid hp
  clear ht h hA hF hp hn
  go_enter Try.func11, Try.ntmps11
  go_wp2_with fail
  refine (hpack_at K 0 0 0 rfl rfl rfl hk hk' HP.out _).mono ?_
  rintro _ _ ⟨rfl, rfl⟩
  go_wp2_with fail
  go_ret
  exact ⟨rfl, rfl⟩
set_option maxHeartbeats 2000000 in
theorem add_yes (h : Has w B t K S Q) (hok : S.Ok K) (v : Th) (hK : M.kOk K) (hl : S.s.length ≤ 1000000) :
    Calls Try.prog 11 #[.pointer (some ⟨t, 0, none⟩), (.int .i64 (v))] w fun e w' => e = .returned (.int .u64 (M.hpV K (S.at' : Int) (S.gn : Int))) ∧ Got w w' B t K (S.put v) Q := by
  have hfl := hok.f_le
  have hal := hok.at_le
  obtain ⟨p0, hp0⟩ : ∃ p, M.hpV K 0 0 = p := ⟨_, rfl⟩
  have e0' : p0 = K * 4611686018427387904 := by rw [← hp0, M.hpV_yes _ _ _ ⟨hK.1, hK.2, by omega⟩]; omega
  have hK1 := hK.1
  have hK2 := hK.2
  have z0' : (p0 == 0) = false := by simp; omega
  obtain ⟨a, ha⟩ : ∃ a, S.at' = a := ⟨_, rfl⟩
  obtain ⟨gn, hgn⟩ : ∃ a, S.gn = a := ⟨_, rfl⟩
  obtain ⟨p, hp⟩ : ∃ p, M.hpV K (a : Int) (gn : Int) = p := ⟨_, rfl⟩
  obtain ⟨e, he, heg, heu⟩ := M.room_at hok z0
  have hput : S.put v = ⟨(S.room z0).s.set a ⟨true, e.g, v⟩, (S.room z0).f⟩ := by
    unfold M.Tt.put
    rw [M.putAt_room hok z0, ha, heg]
    rfl
  rw [hput, ha, hgn, hp]
  rw [ha] at he hal
  rw [hgn] at heg
  have HP0 := Lib.hid hp0
  have HP := Lib.hid hp
  have HE := Lib.hid he
  have HEG := Lib.hid heg
  have HM := Lib.hid (ha ▸ room_any h hl (by omega))
  have HH := Lib.hid h
  obtain ⟨A, F, n, c, m, d, ht, hA, hF⟩ := h.ex
  have c0 := ht.c0
  have b0 := Lib.hid ht.blk
  clear ht h hA hF hp0 e0' ha hgn hp he heg heu hput hK hok
  go_enter Try.func11, Try.ntmps11
  go_wp2_with fail
  refine (hpack_at K 0 0 p0 rfl rfl rfl (by omega) (by omega) HP0.out _).mono ?_
  rintro _ _ ⟨rfl, rfl⟩
  go_wp2_with fail
  refine HM.out.mono ?_
  rintro _ w1 ⟨rfl, g1⟩
  obtain ⟨A1, F1, n1, d1, m1, d2, t1, hA1, hF1⟩ := g1.1.ex
  obtain ⟨g, rfl, hin, _, k0, k1, k2⟩ := t1.slot HE.out
  have x0 := t1.c0
  have x1 := t1.c1
  have q0 := t1.row.frozenAt (a * 3)
  have q2 := t1.row.frozenAt (a * 3 + 2)
  have hset := tcs_use K (S.room z0).s a e v HE.out
  have HS := Lib.hid hset
  rw [HEG.out] at k1
  have T1 := Lib.hid t1
  have G1 := Lib.hid g1
  have HA := Lib.hid hA1
  have HF := Lib.hid hF1
  clear t1 g1 hA1 hF1 hset c0
  go_upto_region 6 with fail
  obtain ⟨w2, hw2⟩ : ∃ y, y = ((w1.setCell ⟨g, a * 3, none⟩ (.int .i64 K)).setCell ⟨g, a * 3 + 2, none⟩ (.int .i64 (v))) := ⟨_, rfl⟩
  rw [← hw2]
  have hgf : rowD (some ⟨g, 0, none⟩) g := ⟨_, rfl, rfl⟩
  have k3 : Kept w1 w2 (fun y => y = g) := by rw [hw2]; exact ((Kept.refl w1 (fun y => y = g)).setCell (p := ⟨g, a * 3, none⟩) (fun _ => rfl) _).setCell (p := ⟨g, a * 3 + 2, none⟩) (fun _ => rfl) _
  have hr : w2.ownsRow B 80 3 (.slice (some ⟨g, 0, none⟩) n1 d1) n1 (tcs K ((S.room z0).s.set a ⟨true, e.g, v⟩)) := by
    rw [hw2, HS.out]
    exact ((T1.out.row.stored (a * 3) (.int .i64 K)).1.stored (a * 3 + 2) (.int .i64 (v))).1
  have t2 := T1.out.over (S' := ⟨(S.room z0).s.set a ⟨true, e.g, v⟩, (S.room z0).f⟩) k3 hr rfl
  have y0 : w2.drew.cell? ⟨t, 0, none⟩ = some (.int .i64 K) := t2.c0
  have y1 : w2.drew.cell? ⟨g, a * 3 + 1, none⟩ = some (.int .i64 (gn : Int)) := by
    obtain ⟨g', eg, _, _, j0, j1, _⟩ := t2.slot (i := a) (e := ⟨true, e.g, v⟩) (by
      show ((S.room z0).s.set a _)[a]? = _
      rw [List.getElem?_set_self (List.getElem?_eq_some_iff.1 HE.out).1])
    cases eg
    rw [← HEG.out]
    exact j1
  have T2 := Lib.hid t2
  have K3 := Lib.hid k3
  have RES := Lib.hid (show Got w w2 B t K ⟨(S.room z0).s.set a ⟨true, e.g, v⟩, (S.room z0).f⟩ Q from G1.out.then (G1.out.1.got (k3.mono (fun y _ e => HA.out y (e ▸ hgf))) t2 (fun y hy => .inl (HA.out y hy)) (fun y hy => .inl (HF.out y hy))))
  have RD := Lib.hid (fun N => RES.out.more (below_drewN' (Below.refl w2.heap.size w2) N))
  clear k3 hr t2 hw2 hgf k0 k1 k2 q0 q2 x0 x1
  go_region_with (refine (hpack_at K (a : Int) (gn : Int) p rfl rfl rfl (by omega) (by omega) HP.out _).mono ?_; rintro _ _ ⟨rfl, rfl⟩)
  all_goals
    go_wp2_with fail
    go_ret
    exact ⟨rfl, RD.out _⟩
end
end Go.Proofs.Ytbkdlblpoohliaa.TI
