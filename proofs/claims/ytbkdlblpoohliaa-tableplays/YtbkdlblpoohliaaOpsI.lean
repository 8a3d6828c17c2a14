/-
  A table of ints: Get, Set.
-/
import Derived.Test.YtbkdlblpoohliaaLiveI
import Derived.StillTailTactics
namespace Go.Proofs.Ytbkdlblpoohliaa.TI
open Go.ChangeShapes Go.WideShapes Go.ChangeAt Go.RowKit Go.Deep T13
set_option linter.unusedVariables false
set_option maxRecDepth 20000

section
variable {w : World} {B t : Nat} {K : Int} {S : M.Tt Th} {Q : Nat → Prop}
theorem get_none (h : Has w B t K S Q) (hh : Nat) (hlt : hh < 18446744073709551616) (hno : S.liv K hh = none) :
    Calls Try.prog 12 #[.pointer (some ⟨t, 0, none⟩), .int .u64 (hh : Int)] w fun e w' => e = .returned (.tuple #[(.int .i64 (z0)), .bool false]) ∧ Below w.heap.size w w' := by
  obtain ⟨A, F, n, c, m, d, ht, hA, hF⟩ := h.ex
  have HL := Lib.hid (live_none ht hh hlt hno)
  clear ht h hA hF hno
  go_enter Try.func12, Try.ntmps12
  go_wp2_with fail
  refine HL.out.mono ?_
  rintro _ w1 ⟨rfl, b1⟩
  go_wp2_with fail
  refine bodyPost_ret (v := .tuple #[(.int .i64 (z0)), .bool false]) ?_ rfl ?_
  · simp [results, go_sem]
  · exact ⟨rfl, b1⟩
theorem get_some (h : Has w B t K S Q) (hh i : Nat) (hlt : hh < 18446744073709551616) (hi : S.liv K hh = some i) {x : M.Te Th} (hx : S.s[i]? = some x) :
    Calls Try.prog 12 #[.pointer (some ⟨t, 0, none⟩), .int .u64 (hh : Int)] w fun e w' => e = .returned (.tuple #[(.int .i64 (x.v)), .bool true]) ∧ Below w.heap.size w w' := by
  obtain ⟨A, F, n, c, m, d, ht, hA, hF⟩ := h.ex
  obtain ⟨g, rfl, hin, _, k0, k1, k2⟩ := ht.slot hx
  have HL := Lib.hid (live_some ht hh i hlt hi)
  have K2 := Lib.hid k2
  clear ht h hA hF hi k0 k1 k2
  go_enter Try.func12, Try.ntmps12
  go_wp2_with fail
  refine HL.out.mono ?_
  rintro _ w1 ⟨rfl, b1⟩
  have q2 := (b1.cell (lt_of_cell K2.out)).trans K2.out
  have B1 := Lib.hid b1
  clear b1
  go_wp2_with fail
  refine bodyPost_ret (v := .tuple #[(.int .i64 (x.v)), .bool true]) ?_ rfl ?_
  · simp [results, go_sem]
  · exact ⟨rfl, B1.out⟩
theorem set_none (h : Has w B t K S Q) (hh : Nat) (hlt : hh < 18446744073709551616) (v : Th) (hno : S.liv K hh = none) :
    Calls Try.prog 15 #[.pointer (some ⟨t, 0, none⟩), .int .u64 (hh : Int), (.int .i64 (v))] w fun e w' => e = .returned (.bool false) ∧ Below w.heap.size w w' := by
  obtain ⟨A, F, n, c, m, d, ht, hA, hF⟩ := h.ex
  have HL := Lib.hid (live_none ht hh hlt hno)
  clear ht h hA hF hno
  go_enter Try.func15, Try.ntmps15
  go_wp2_with fail
  refine HL.out.mono ?_
  rintro _ w1 ⟨rfl, b1⟩
  go_wp2_with fail
  go_ret
  exact ⟨rfl, b1⟩
theorem set_some (h : Has w B t K S Q) (hh i : Nat) (hlt : hh < 18446744073709551616) (v : Th) (hi : S.liv K hh = some i) :
    Calls Try.prog 15 #[.pointer (some ⟨t, 0, none⟩), .int .u64 (hh : Int), (.int .i64 (v))] w fun e w' => e = .returned (.bool true) ∧ Got w w' B t K (S.set i v) Q := by
  obtain ⟨A, F, n, c, m, d, ht, hA, hF⟩ := h.ex
  obtain ⟨u1, u2, x, hx, hu, u3, u4⟩ := M.liv_some hi
  clear u1 u2 u3 u4
  obtain ⟨g, rfl, hin, _, k0, k1, k2⟩ := ht.slot hx
  have es : S.set i v = ⟨S.s.set i ⟨x.u, x.g, v⟩, S.f⟩ := by unfold M.Tt.set; rw [hx, hu]
  rw [es]
  have HL := Lib.hid (live_some ht hh i hlt hi)
  have HT := Lib.hid ht
  have HH := Lib.hid h
  have HX := Lib.hid hx
  have HA := Lib.hid hA
  have HF := Lib.hid hF
  have K2 := Lib.hid k2
  clear ht h hA hF hi k0 k1 k2 es hx hu
  go_enter Try.func15, Try.ntmps15
  go_wp2_with fail
  refine HL.out.mono ?_
  rintro _ w1 ⟨rfl, b1⟩
  have ht1 := HT.out.kept (Kept.of_below b1 (fun _ => False)) id (fun _ _ => id) (fun _ _ => id)
  have q2 := (b1.cell (lt_of_cell K2.out)).trans K2.out
  have q3 := ht1.row.frozenAt (i * 3 + 2)
  have B1 := Lib.hid b1
  have T1 := Lib.hid ht1
  clear b1 ht1
  go_wp2_with fail
  go_ret
  have k3 : Kept w1 (w1.setCell ⟨g, i * 3 + 2, none⟩ (.int .i64 (v))) (fun x => x = g) := (Kept.refl w1 (fun x => x = g)).setCell (p := ⟨g, i * 3 + 2, none⟩) (fun _ => rfl) _
  have hr := (T1.out.row.stored (i * 3 + 2) (.int .i64 (v))).1
  rw [← tcs_thing K S.s i x v HX.out] at hr
  refine ⟨rfl, HH.out.got ((Kept.of_below B1.out Q).trans k3 (fun y _ e => ?_)) (T1.out.over (S' := ⟨S.s.set i ⟨x.u, x.g, v⟩, S.f⟩) k3 hr rfl) (fun y hy => .inl (HA.out y hy)) (fun y hy => .inl (HF.out y hy))⟩
  exact HA.out y ⟨_, rfl, e.symm⟩
end
end Go.Proofs.Ytbkdlblpoohliaa.TI
