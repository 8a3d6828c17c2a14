/-
  A table of ints: Drop.
-/
import Derived.Test.YtbkdlblpoohliaaLiveI
namespace Go.Proofs.Ytbkdlblpoohliaa.TI
open Go.ChangeShapes Go.WideShapes Go.ChangeAt Go.RowKit Go.Deep T13
set_option linter.unusedVariables false
set_option maxRecDepth 20000

section
variable {w : World} {B t : Nat} {K : Int} {S : M.Tt Th} {Q : Nat → Prop}
theorem drop_none (h : Has w B t K S Q) (hh : Nat) (hlt : hh < 18446744073709551616) (hno : S.liv K hh = none) :
    Calls Try.prog 17 #[.pointer (some ⟨t, 0, none⟩), .int .u64 (hh : Int)] w fun e w' => e = .returned (.bool false) ∧ Below w.heap.size w w' := by
  obtain ⟨A, F, n, c, m, d, ht, hA, hF⟩ := h.ex
  have HL := Lib.hid (live_none ht hh hlt hno)
  clear ht h hA hF hno
  go_enter Try.func17, Try.ntmps17
  go_wp2_with fail
  refine HL.out.mono ?_
  rintro _ w1 ⟨rfl, b1⟩
  go_wp2_with fail
  go_ret
  exact ⟨rfl, b1⟩
theorem drop_some (h : Has w B t K S Q) (hh i : Nat) (hlt : hh < 18446744073709551616) (hi : S.liv K hh = some i) (hg : ∀ x : M.Te Th, S.s[i]? = some x → x.g < 1073741824) (hl : S.f.length ≤ 1000000) :
    Calls Try.prog 17 #[.pointer (some ⟨t, 0, none⟩), .int .u64 (hh : Int)] w fun e w' => e = .returned (.bool true) ∧ Got w w' B t K (S.drop z0 i) Q := by
  obtain ⟨A, F, n, c, m, d, ht, hA, hF⟩ := h.ex
  obtain ⟨u1, u2, x, hx, hu, u3, u4⟩ := M.liv_some hi
  clear u1 u2 u3 u4
  obtain ⟨g, rfl, hin, _, k0, k1, k2⟩ := ht.slot hx
  have hgx := hg x hx
  have es : S.drop z0 i = ⟨S.s.set i ⟨false, M.nx x.g, z0⟩, S.f ++ [i]⟩ := by unfold M.Tt.drop; rw [hx]
  rw [es]
  obtain ⟨q, hq⟩ : ∃ q, M.nx x.g = q := ⟨_, rfl⟩
  rw [hq]
  have hnx : M.hnV (x.g : Int) = (q : Int) := by rw [M.nx_hn, hq]
  have hm := ht.m_eq
  have hm6 : m ≤ 1000000 := by omega
  have hil : i < S.s.length := (List.getElem?_eq_some_iff.1 hx).1
  have hset := tcs_set K S.s i ⟨false, q, z0⟩ hil
  obtain ⟨i0, hi0, hi1, hi2, hi3⟩ := infoI
  have HI := Lib.hid (show _ ∧ _ ∧ _ ∧ _ from ⟨hi0, hi1, hi2, hi3⟩)
  have NX := Lib.hid hnx
  have HS := Lib.hid hset
  have HL := Lib.hid (live_some ht hh i hlt hi)
  have HT := Lib.hid ht
  have HH := Lib.hid h
  have HA := Lib.hid hA
  have HF := Lib.hid hF
  have hgf : rowD (some ⟨g, 0, none⟩) g := ⟨_, rfl, rfl⟩
  have HG := Lib.hid hgf
  have K0 := Lib.hid k0
  have K1 := Lib.hid k1
  have K2 := Lib.hid k2
  clear ht h hA hF hi k0 k1 k2 es hx hu hq hnx hm hg hil hset hi0 hi1 hi2 hi3 hgf
  go_enter Try.func17, Try.ntmps17
  go_wp2_with fail
  refine HL.out.mono ?_
  rintro _ w1 ⟨rfl, b1⟩
  have ht1 := HT.out.kept (Kept.of_below b1 (fun _ => False)) id (fun _ _ => id) (fun _ _ => id)
  have r0 := (b1.cell (lt_of_cell K0.out)).trans K0.out
  have r1 := (b1.cell (lt_of_cell K1.out)).trans K1.out
  have r2 := (b1.cell (lt_of_cell K2.out)).trans K2.out
  have q0 := ht1.row.frozenAt (i * 3)
  have q1 := ht1.row.frozenAt (i * 3 + 1)
  have q2 := ht1.row.frozenAt (i * 3 + 2)
  have B1 := Lib.hid b1
  have T1 := Lib.hid ht1
  clear b1 ht1
  go_wp2_with fail
  refine (hnext_at (x.g : Int) (q : Int) rfl (by omega) (by omega) NX.out _).mono ?_
  rintro _ _ ⟨rfl, rfl⟩
  go_upto_region 5 with fail
  obtain ⟨w2, hw2⟩ : ∃ v, v = (((w1.setCell ⟨g, i * 3, none⟩ (.int .i64 0)).setCell ⟨g, i * 3 + 1, none⟩ (.int .i64 (q : Int))).setCell ⟨g, i * 3 + 2, none⟩ (.int .i64 (z0))) := ⟨_, rfl⟩
  rw [← hw2]
  have k3 : Kept w1 w2 (fun y => y = g) := by rw [hw2]; exact ((((Kept.refl w1 (fun y => y = g)).setCell (p := ⟨g, i * 3, none⟩) (fun _ => rfl) _).setCell (p := ⟨g, i * 3 + 1, none⟩) (fun _ => rfl) _).setCell (p := ⟨g, i * 3 + 2, none⟩) (fun _ => rfl) _)
  have hr : w2.ownsRow B 80 3 (.slice (some ⟨g, 0, none⟩) n c) n (tcs K (S.s.set i ⟨false, q, z0⟩)) := by
    rw [hw2, HS.out]
    exact (((T1.out.row.stored (i * 3) (.int .i64 0)).1.stored (i * 3 + 1) (.int .i64 (q : Int))).1.stored (i * 3 + 2) (.int .i64 (z0))).1
  have t2 := T1.out.over (S' := ⟨S.s.set i ⟨false, q, z0⟩, S.f⟩) k3 hr rfl
  have hB2 : B ≤ (w2.alloc (.cells #[.int .i64 (i : Int)] 3)).heap.size := by
    have := HH.out.low
    have := B1.out.size
    have := k3.size
    simp
    omega
  have c2 := t2.c2
  have OWN := Lib.hid (t2.fre.alloc (.cells #[.int .i64 (i : Int)] 3))
  have NEW := Lib.hid (one_new w2 (.int .i64 (i : Int)) 3)
  have HB := Lib.hid hB2
  have HK := Lib.hid k3
  have T2 := Lib.hid t2
  clear k3 hr t2 hB2 hw2 r0 r1 q0 q1 q2 r2
  go_wp2_with (at_builtin; refine wpList_append_lies _ rfl _ _ 27 rfl B 3 i0 (.int .i64 0) 1 8 Try.underlying27 HI.out.1 HI.out.2.1 HI.out.2.2.1 HI.out.2.2.2 rfl (by decide) (.slice F m d) m (nats S.f) rfl OWN.out ⟨w2.heap.size, 0, none⟩ 1 1 [.int .i64 (i : Int)] rfl rfl NEW.out (nats_one [i]) (by decide) (by unfold maxLen; omega) (by omega) HB.out _ rfl ?_; intro g1 c4 w4 hrow hgr hat hlt; (have K4 : Kept w2 w4 (rowD F) := ((Kept.refl w2 _).alloc _).grown hgr (fun x e _ => own_D e)); (have p2 : w4.cell? ⟨t, 2, none⟩ = some (.slice F m d) := K4.cell_some c2 T2.out.offF); (have q2 : w4.frozen? ⟨t, 2, none⟩ = false := by rw [World.frozen?_of_block (K4.block t T2.out.lt T2.out.offF)]; exact T2.out.frz 2); (have HR := Lib.hid hrow); (have HW := Lib.hid hat); (have HLt := Lib.hid hlt); (have HK4 := Lib.hid K4); clear hrow hgr hat hlt K4)
  go_ret
  have k4 := HK4.out
  have hlt := HLt.out
  have k14 : Kept w w2 Q := (Kept.of_below B1.out Q).trans HK.out (fun y _ e => HA.out y (e ▸ HG.out))
  have k5 : Kept w w4 Q := k14.trans k4 (fun y _ hy => HF.out y hy)
  have hk5 : Kept w (w4.setCell ⟨t, 2, none⟩ (.slice (some ⟨g1, 0, none⟩) (m + 1) c4)) Q := k5.setCell (p := ⟨t, 2, none⟩) (fun _ => HH.out.qt) _
  refine ⟨rfl, HH.out.got hk5 (T2.out.turnF (S' := ⟨S.s.set i ⟨false, q, z0⟩, S.f ++ [i]⟩) (row_kept T2.out.row k4 (fun y hy e => T2.out.apart hy e)) (k4.block t T2.out.lt T2.out.offF) ?_) (fun y hy => .inl (HA.out y hy)) (fun y hy => ?_)⟩
  · show w4.ownsRow B _ _ _ _ (nats (S.f ++ [i]))
    rw [nats_append]
    exact HR.out
  · rw [rowD_some hy]
    rcases HW.out with e | e
    · exact .inl (HF.out _ (own_D e))
    · refine .inr ⟨?_, by simpa using hlt⟩
      rw [e]
      have := k14.size
      simp
      omega
end
end Go.Proofs.Ytbkdlblpoohliaa.TI
