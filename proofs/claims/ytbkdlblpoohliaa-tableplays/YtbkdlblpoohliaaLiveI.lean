/-
  A table of ints: the slot of a handle.
-/
import Derived.Test.YtbkdlblpoohliaaHasI
namespace Go.Proofs.Ytbkdlblpoohliaa.TI
open Go.ChangeShapes Go.WideShapes Go.ChangeAt Go.RowKit Go.Deep T13
set_option linter.unusedVariables false
set_option maxRecDepth 20000

section
variable {w : World} {B t n c m d : Nat} {K : Int} {S : M.Tt Th} {A F : Option Addr}
theorem live_dead (ht : Tab w B t K S A F n c m d) (hh : Nat) (hlt : hh < 18446744073709551616) (hb : M.huB hh = false) :
    Calls Try.prog 38 #[.pointer (some ⟨t, 0, none⟩), .int .u64 (hh : Int)] w fun e w' => e = .returned (.tuple #[.pointer none, .int .i64 0]) ∧ Below w.heap.size w w' := by
  have HB := Lib.hid hb
  clear hb
  go_enter Try.func38, Try.ntmps38
  go_wp2_with fail
  refine (hunpack_at hh _ _ _ false rfl hlt rfl rfl rfl HB.out _).mono ?_
  rintro _ w1 ⟨rfl, b1⟩
  go_wp2_with fail
  refine bodyPost_ret (v := .tuple #[.pointer none, .int .i64 0]) ?_ rfl ?_
  · simp [results, go_sem]
  · exact ⟨rfl, b1⟩
theorem live_out (ht : Tab w B t K S A F n c m d) (hh : Nat) (hlt : hh < 18446744073709551616) (hb : M.huB hh = true) (hn : n ≤ M.huS hh) :
    Calls Try.prog 38 #[.pointer (some ⟨t, 0, none⟩), .int .u64 (hh : Int)] w fun e w' => e = .returned (.tuple #[.pointer none, .int .i64 0]) ∧ Below w.heap.size w w' := by
  obtain ⟨s, hs⟩ : ∃ s, M.huS hh = s := ⟨_, rfl⟩
  rw [hs] at hn
  have HS := Lib.hid hs
  have HB := Lib.hid hb
  have HT := Lib.hid ht
  clear hb hs ht
  go_enter Try.func38, Try.ntmps38
  go_wp2_with fail
  refine (hunpack_at hh _ s _ true rfl hlt rfl HS.out rfl HB.out _).mono ?_
  rintro _ w1 ⟨rfl, b1⟩
  have c1 := (HT.out.kept (Kept.of_below b1 (fun _ => False)) id (fun _ _ => id) (fun _ _ => id)).c1
  have B1 := Lib.hid b1
  clear b1
  go_wp2_with fail
  refine bodyPost_ret (v := .tuple #[.pointer none, .int .i64 0]) ?_ rfl ?_
  · simp [results, go_sem]
  · exact ⟨rfl, B1.out⟩
theorem live_other (ht : Tab w B t K S A F n c m d) (hh : Nat) (hlt : hh < 18446744073709551616) (hb : M.huB hh = true) {x : M.Te Th} (hx : S.s[M.huS hh]? = some x) (hn : ¬ (M.kd K x.u = (M.huK hh : Int) ∧ (x.g : Int) = (M.huG hh : Int))) :
    Calls Try.prog 38 #[.pointer (some ⟨t, 0, none⟩), .int .u64 (hh : Int)] w fun e w' => e = .returned (.tuple #[.pointer none, .int .i64 0]) ∧ Below w.heap.size w w' := by
  obtain ⟨s, hs⟩ : ∃ s, M.huS hh = s := ⟨_, rfl⟩
  obtain ⟨a, ha⟩ : ∃ a, M.huK hh = a := ⟨_, rfl⟩
  obtain ⟨b, hb2⟩ : ∃ a, M.huG hh = a := ⟨_, rfl⟩
  obtain ⟨p, hp⟩ : ∃ a, M.kd K x.u = a := ⟨_, rfl⟩
  obtain ⟨q, hq⟩ : ∃ a : Int, (x.g : Int) = a := ⟨_, rfl⟩
  rw [hs] at hx
  rw [ha, hb2, hp, hq] at hn
  have HS := Lib.hid hs
  have HA := Lib.hid ha
  have HG := Lib.hid hb2
  have HB := Lib.hid hb
  have HX := Lib.hid hx
  have HT := Lib.hid ht
  by_cases hpa : p = (a : Int)
  · have hqb : ¬ q = (b : Int) := fun e => hn ⟨hpa, e⟩
    subst hpa
    have z1 : (q == (b : Int)) = false := by simpa using hqb
    have HP := Lib.hid hp
    have HQ := Lib.hid hq
    clear hb hs ht ha hb2 hn hx hp hq
    go_enter Try.func38, Try.ntmps38
    go_wp2_with fail
    refine (hunpack_at hh a s b true rfl hlt HA.out HS.out HG.out HB.out _).mono ?_
    rintro _ w1 ⟨rfl, b1⟩
    have ht1 := HT.out.kept (Kept.of_below b1 (fun _ => False)) id (fun _ _ => id) (fun _ _ => id)
    obtain ⟨g, rfl, hsn, _, k0, k1, _⟩ := ht1.slot HX.out
    have c1 := ht1.c1
    rw [HP.out] at k0
    rw [HQ.out] at k1
    have B1 := Lib.hid b1
    clear b1 ht1
    go_wp2_with fail
    refine bodyPost_ret (v := .tuple #[.pointer none, .int .i64 0]) ?_ rfl ?_
    · simp [results, go_sem]
    · exact ⟨rfl, B1.out⟩
  · have z1 : (p == (a : Int)) = false := by simpa using hpa
    have HP := Lib.hid hp
    have HQ := Lib.hid hq
    clear hb hs ht ha hb2 hn hx hp hq
    go_enter Try.func38, Try.ntmps38
    go_wp2_with fail
    refine (hunpack_at hh a s b true rfl hlt HA.out HS.out HG.out HB.out _).mono ?_
    rintro _ w1 ⟨rfl, b1⟩
    have ht1 := HT.out.kept (Kept.of_below b1 (fun _ => False)) id (fun _ _ => id) (fun _ _ => id)
    obtain ⟨g, rfl, hsn, _, k0, k1, _⟩ := ht1.slot HX.out
    have c1 := ht1.c1
    rw [HP.out] at k0
    rw [HQ.out] at k1
    have B1 := Lib.hid b1
    clear b1 ht1
    go_wp2_with fail
    refine bodyPost_ret (v := .tuple #[.pointer none, .int .i64 0]) ?_ rfl ?_
    · simp [results, go_sem]
    · exact ⟨rfl, B1.out⟩
theorem live_none (ht : Tab w B t K S A F n c m d) (hh : Nat) (hlt : hh < 18446744073709551616) (hno : S.liv K hh = none) :
    Calls Try.prog 38 #[.pointer (some ⟨t, 0, none⟩), .int .u64 (hh : Int)] w fun e w' => e = .returned (.tuple #[.pointer none, .int .i64 0]) ∧ Below w.heap.size w w' := by
  cases hb : M.huB hh with
  | false => exact live_dead ht hh hlt hb
  | true =>
    cases hx : S.s[M.huS hh]? with
    | none =>
      have := List.getElem?_eq_none_iff.1 hx
      have := ht.n_eq
      exact live_out ht hh hlt hb (by omega)
    | some x =>
      refine live_other ht hh hlt hb hx (fun hn => ?_)
      rw [M.liv_same hx hn hb] at hno
      cases hno
theorem live_some {g : Nat} (ht : Tab w B t K S (some ⟨g, 0, none⟩) F n c m d) (hh i : Nat) (hlt : hh < 18446744073709551616) (hi : S.liv K hh = some i) :
    Calls Try.prog 38 #[.pointer (some ⟨t, 0, none⟩), .int .u64 (hh : Int)] w fun e w' => e = .returned (.tuple #[.pointer (some ⟨g, i * 3, none⟩), .int .i64 (i : Int)]) ∧ Below w.heap.size w w' := by
  obtain ⟨hb, hs, x, hx, hu, hk, hg⟩ := M.liv_some hi
  obtain ⟨a, ha⟩ : ∃ a, M.huK hh = a := ⟨_, rfl⟩
  obtain ⟨b, hb2⟩ : ∃ a, M.huG hh = a := ⟨_, rfl⟩
  rw [ha] at hk
  rw [hb2] at hg
  obtain ⟨g', eg, hsn, _, k0, k1, _⟩ := ht.slot hx
  have k0' : w.cell? ⟨g, i * 3, none⟩ = some (.int .i64 (a : Int)) := by cases eg; rw [k0, M.kd, if_pos hu, hk]
  have k1' : w.cell? ⟨g, i * 3 + 1, none⟩ = some (.int .i64 (b : Int)) := by cases eg; rw [k1, hg]
  have HA := Lib.hid ha
  have HG := Lib.hid hb2
  have HB := Lib.hid hb
  have HS := Lib.hid hs.symm
  have HT := Lib.hid ht
  have K0 := Lib.hid k0'
  have K1 := Lib.hid k1'
  clear hb hs ht ha hb2 hx k0 k1 k0' k1' eg hk hg hu hi
  go_enter Try.func38, Try.ntmps38
  go_wp2_with fail
  refine (hunpack_at hh a i b true rfl hlt HA.out HS.out HG.out HB.out _).mono ?_
  rintro _ w1 ⟨rfl, b1⟩
  have ht1 := HT.out.kept (Kept.of_below b1 (fun _ => False)) id (fun _ _ => id) (fun _ _ => id)
  have c1 := ht1.c1
  have k0 := (b1.cell (lt_of_cell K0.out)).trans K0.out
  have k1 := (b1.cell (lt_of_cell K1.out)).trans K1.out
  have B1 := Lib.hid b1
  clear b1 ht1
  go_wp2_with fail
  refine bodyPost_ret (v := .tuple #[.pointer (some ⟨g, i * 3, none⟩), .int .i64 (i : Int)]) ?_ rfl ?_
  · simp [results, go_sem]
  · exact ⟨rfl, B1.out⟩
end
end Go.Proofs.Ytbkdlblpoohliaa.TI
