/-
  Add of a space that a call made, and calls of a width that there is.
-/
import Derived.Test.YtpcahaihlcaabaaCel3
namespace Go.Proofs.Ytpcahaihlcaabaa
open Go.ChangeShapes Go.WideShapes Go.ChangeAt Go.RowKit
set_option linter.unusedVariables false
set_option maxRecDepth 20000

theorem add1_any (v n B : Nat) (w : World) (hB : w.cell? ⟨B, 0, none⟩ = some (.int .u64 n)) :
    Calls Try.prog 34 #[.int .u64 v, .pointer (some ⟨B, 0, none⟩)] w fun e w' => e = .returned (.int .u64 (((v + n) % 18446744073709551616 : Nat) : Int)) ∧ w = w' := by
  have hw : IntKind.u64.wrap ((v : Int) + (n : Int)) = (((v + n) % 18446744073709551616 : Nat) : Int) := by rw [wrapU]; omega
  go_enter Try.func34, Try.ntmps34
  go_wp2
  go_ret
  exact ⟨rfl, rfl⟩
theorem call_add1 (args : Array Value) (w : World) : (callFunc 34 args).run Try.prog w = .ok (.enter 34 args) w := by kernel_rfl
section
variable {w0 w w' : World} {s P T : Nat} {f : Nat → UInt8} {O O' : Nat → Prop}
theorem at_change_ok (h : At w0 w s P T f O) (B a n : Nat) (y : Int) (hB : w.cell? ⟨B, 0, none⟩ = some (.int .u64 n)) (hO : ¬ O B) (ha : a < 18446744073709551616) (hn : n < 18446744073709551616) (hT : T ≤ 900000000000) (hE : gE P a y = 0) :
    Calls Try.prog 33 #[.pointer (some ⟨s, 0, none⟩), .int .u64 a, .int .i64 y, .func (.func 34) #[] #[.pointer (some ⟨B, 0, none⟩)]] w fun e w' =>
      e = .returned (.tuple #[.int .u64 (gV P f a y : Nat), .int .i64 0]) ∧ At w0 w' s P (T + gT P a y + gT P a y) (pF P f a y (aS P f a y n)) (Wid O w w') ∧ Kept w w' O := by
  have hP := h.sp.top
  have hg : gT P a y ≤ 1048578 := gT_le hP.2
  have hcall := call_add1
  have h1 := at_cget h a y ha (by omega)
  rw [hE] at h1
  have H1 := Lib.hid h1
  have HB := Lib.hid (And.intro hB (And.intro hO h))
  clear h1 h hB hO
  obtain ⟨t1, ht1⟩ : ∃ t1, t1 = gT P a y := ⟨_, rfl⟩
  obtain ⟨v, hv⟩ : ∃ v, v = gV P f a y := ⟨_, rfl⟩
  have hv64 := gV_lt P f a y
  rw [← hv] at hv64
  rw [← ht1, ← hv] at H1 ⊢
  have hg1 : t1 ≤ 1048578 := by omega
  have HE := Lib.hid (And.intro hE (And.intro ht1 hv))
  clear hE ht1 hv hg
  go_enter Try.func33, Try.ntmps33
  go_wp2_with fail
  refine (H1.out).mono ?_
  rintro e w1 ⟨rfl, A1, k1⟩
  have b1 : w1.cell? ⟨B, 0, none⟩ = some (.int .u64 n) := k1.cell_some HB.out.1 HB.out.2.1
  have HA := Lib.hid (And.intro A1 k1)
  have HB1 := Lib.hid b1
  clear A1 k1 b1 H1
  go_wp2_with fail
  refine (add1_any v n B _ HB1.out).mono ?_
  rintro e w' ⟨rfl, rfl⟩
  have hs : (v + n) % 18446744073709551616 < 18446744073709551616 := Nat.mod_lt _ (by omega)
  have hp := at_cput HA.out.1 a ((v + n) % 18446744073709551616) y ha hs (by omega)
  rw [HE.out.1, ← HE.out.2.1] at hp
  have HQ := Lib.hid hp
  clear hp
  generalize hs1 : (v + n) % 18446744073709551616 = sm at *
  have HS := Lib.hid hs1
  clear hs1
  go_wp2_with fail
  refine (HQ.out).mono ?_
  rintro e w2 ⟨rfl, A2, k2⟩
  have HA2 := Lib.hid (And.intro A2 k2)
  clear A2 k2 HQ
  go_wp2_with fail
  go_ret2
  refine ⟨rfl, ?_, HA.out.2.trans HA2.out.2 (fun _ _ h => h)⟩
  have e1 : aS P f a y n = sm := by unfold aS; rw [← HE.out.2.2]; exact HS.out
  rw [e1]
  have hz := HA.out.2.size
  exact HA2.out.1.mono (fun b hb => hb.imp id (fun e => ⟨by omega, e.2⟩)) (fun b hb => hb.elim (fun e => Nat.lt_of_lt_of_le (HA.out.1.sp.lt e) HA2.out.2.size) (fun e => e.2)) HB.out.2.2.wid
theorem at_change_no (h : At w0 w s P T f O) (B a : Nat) (y : Int) (ha : a < 18446744073709551616) (hT : T ≤ 900000000000) (hE : gE P a y ≠ 0) :
    Calls Try.prog 33 #[.pointer (some ⟨s, 0, none⟩), .int .u64 a, .int .i64 y, .func (.func 34) #[] #[.pointer (some ⟨B, 0, none⟩)]] w fun e w' =>
      e = .returned (.tuple #[.int .u64 0, .int .i64 (gE P a y : Nat)]) ∧ At w0 w' s P T f O ∧ Kept w w' O := by
  have hP := h.sp.top
  have h1 := at_cget h a y ha (by omega)
  have e1 : gV P f a y = 0 := by unfold gV; rw [if_neg hE]
  have e2 : gT P a y = 0 := by unfold gT; rw [if_neg hE]
  rw [e1, e2, Nat.add_zero] at h1
  have H1 := Lib.hid h1
  clear h1 h e1 e2
  have hb : (((gE P a y : Nat) : Int) != 0) = true := by simpa using hE
  clear hE
  generalize gE P a y = er at *
  go_enter Try.func33, Try.ntmps33
  go_wp2_with fail
  refine (H1.out).mono ?_
  rintro e w1 ⟨rfl, A1, k1⟩
  have HA := Lib.hid (And.intro A1 k1)
  clear A1 k1 H1
  go_wp2_with fail
  go_ret2
  exact ⟨rfl, HA.out⟩
def aT (P a : Nat) (y : Int) : Nat := gT P a y + gT P a y
def aF (P : Nat) (f : Nat → UInt8) (a : Nat) (y : Int) (n : Nat) : Nat → UInt8 := pF P f a y (aS P f a y n)
theorem at_cadd (h : At w0 w s P T f O) (a n : Nat) (y : Int) (ha : a < 18446744073709551616) (hn : n < 18446744073709551616) (hT : T ≤ 900000000000) :
    Calls Try.prog 18 #[.pointer (some ⟨s, 0, none⟩), .int .u64 a, .int .i64 y, .int .u64 n] w fun e w' =>
      e = .returned (.tuple #[.int .u64 (gV P f a y : Nat), .int .i64 (gE P a y : Nat)]) ∧ At w0 w' s P (T + aT P a y) (aF P f a y n) (Wid O w w') ∧ Kept w w' O := by
  have h1 : At w0 (w.alloc (.cells #[.int .u64 (n : Int)] 31)) s P T f O := h.alloc _
  have hB : (w.alloc (.cells #[.int .u64 (n : Int)] 31)).cell? ⟨w.heap.size, 0, none⟩ = some (.int .u64 (n : Int)) := World.cell?_alloc_mark _ _ _ _ _
  have hO : ¬ O w.heap.size := fun e => by have := h.sp.lt e; omega
  have kB : Kept w (w.alloc (.cells #[.int .u64 (n : Int)] 31)) O := (Kept.refl w O).alloc _
  have zB : (w.alloc (.cells #[.int .u64 (n : Int)] 31)).heap.size = w.heap.size + 1 := by simp
  have hc : Calls Try.prog 33 #[.pointer (some ⟨s, 0, none⟩), .int .u64 a, .int .i64 y, .func (.func 34) #[] #[.pointer (some ⟨w.heap.size, 0, none⟩)]] (w.alloc (.cells #[.int .u64 (n : Int)] 31)) fun e w' =>
      e = .returned (.tuple #[.int .u64 (gV P f a y : Nat), .int .i64 (gE P a y : Nat)]) ∧ At w0 w' s P (T + aT P a y) (aF P f a y n) (Wid O w w') ∧ Kept w w' O := by
    unfold aT aF
    by_cases hE : gE P a y = 0
    · refine (at_change_ok h1 w.heap.size a n y hB hO ha hn hT hE).mono ?_
      rintro e w' ⟨rfl, A1, k1⟩
      rw [hE, ← Nat.add_assoc]
      exact ⟨rfl, A1.mono (fun b hb => hb.imp id (fun e => ⟨by omega, e.2⟩)) (fun b hb => hb.elim (fun e => Nat.lt_of_lt_of_le (h1.sp.lt e) k1.size) (fun e => e.2)) h.wid, kB.trans k1 (fun _ _ h => h)⟩
    · refine (at_change_no h1 w.heap.size a y ha hT hE).mono ?_
      rintro e w' ⟨rfl, A1, k1⟩
      have e1 : gV P f a y = 0 := by unfold gV; rw [if_neg hE]
      have e2 : gT P a y = 0 := by unfold gT; rw [if_neg hE]
      have e3 : pF P f a y (aS P f a y n) = f := by unfold pF; rw [if_neg hE]
      rw [e1, e2, e3]
      have k2 := kB.trans k1 (fun _ _ h => h)
      exact ⟨rfl, h.widen A1.sp k2, k2⟩
  have HC := Lib.hid hc
  clear hc h h1 hB hO kB zB
  go_enter Try.func18, Try.ntmps18
  go_wp2_with fail
  refine (HC.out).mono ?_
  rintro e w1 ⟨rfl, q⟩
  have Q := Lib.hid q
  clear q HC
  go_wp2_with fail
  go_ret2
  exact ⟨rfl, Q.out⟩
end
end Go.Proofs.Ytpcahaihlcaabaa
