/-
  The document's Copy.
-/
import Derived.Test.YtdchnncoddjngaaRef5
namespace Go.Proofs.Ytdchnncoddjngaa
open Go.ChangeShapes Go.WideShapes Go.ChangeAt Go.RowKit
set_option linter.unusedVariables false

set_option maxHeartbeats 1000000 in
theorem rcopy_no1 (w : World) (P : Nat) (A : Option Addr) (n c T : Nat) (hP : P ≤ 1048576) (t a k : Nat) (ht : t < 18446744073709551616) (ha : a < 18446744073709551616) (hkb : k < 18446744073709551616) (hin : M.inB t k (P * 4096) = false) :
    Calls Try.prog 20 #[refV P A n c T, .int .u64 t, .int .u64 a, .int .u64 k] w fun r w' => r = .returned (.tuple #[refV P A n c T, .int .i64 3]) ∧ Below w.heap.size w w' := by
  go_enter Try.func20, Try.ntmps20
  go_wp2_with fail
  refine (rin_any _ P A n c T hP t k ht (by omega)).mono ?_
  rintro e w1 ⟨rfl, b1⟩
  have t1 := (two_made w (.int .i64 (P : Int)) (.slice A n c) (.int .i64 (T : Int))).below b1
  generalize hb2 : w.heap.size + 1 = b2 at t1 ⊢
  obtain ⟨b0, hb0⟩ : ∃ b0, b0 = w.heap.size := ⟨_, rfl⟩
  rw [← hb0] at t1
  have T1 := Lib.hid (show Two w w1 b0 b2 (.int .i64 (P : Int)) (.slice A n c) (.int .i64 (T : Int)) (.int .i64 0) (.slice none 0 0) (.int .i64 0) ∧ b0 = w.heap.size from ⟨t1, hb0⟩)
  have hne : b0 < b2 := by omega
  rw [← hb0]
  have c0 := t1.c0
  have c1 := t1.c1
  have c2 := t1.c2
  have d0 := t1.d0
  have d1 := t1.d1
  have d2 := t1.d2
  have f1 := t1.f1
  have f2 := t1.f2
  clear t1 b1 hb2 hb0
  go_wp2_with fail
  refine bodyPost_ret (v := .tuple #[.agg #[.int .i64 (P : Int), .slice A n c, .int .i64 (T : Int)], .int .i64 3]) ?_ rfl ?_
  · simp [results, go_sem, d0, d1, d2]
  · have hb := T1.out.1.low
    have hlt := T1.out.1.lt
    refine ⟨rfl, ((T1.out.1.bel.setCell (p := ⟨b2, 0, none⟩) (by show _ ≤ b2; omega) _).setCell (p := ⟨b2, 1, none⟩) (by show _ ≤ b2; omega) _).setCell (p := ⟨b2, 2, none⟩) (by show _ ≤ b2; omega) _⟩
set_option maxHeartbeats 1000000 in
theorem rcopy_no2 (w : World) (P : Nat) (A : Option Addr) (n c T : Nat) (hP : P ≤ 1048576) (t a k : Nat) (ht : t < 18446744073709551616) (ha : a < 18446744073709551616) (hkb : k < 18446744073709551616) (hin : M.inB t k (P * 4096) = true) (hin2 : M.inB a k (P * 4096) = false) :
    Calls Try.prog 20 #[refV P A n c T, .int .u64 t, .int .u64 a, .int .u64 k] w fun r w' => r = .returned (.tuple #[refV P A n c T, .int .i64 3]) ∧ Below w.heap.size w w' := by
  go_enter Try.func20, Try.ntmps20
  go_wp2_with fail
  refine (rin_any _ P A n c T hP t k ht (by omega)).mono ?_
  rintro e w1 ⟨rfl, b1⟩
  have t1 := (two_made w (.int .i64 (P : Int)) (.slice A n c) (.int .i64 (T : Int))).below b1
  generalize hb2 : w.heap.size + 1 = b2 at t1 ⊢
  obtain ⟨b0, hb0⟩ : ∃ b0, b0 = w.heap.size := ⟨_, rfl⟩
  rw [← hb0] at t1
  have T1 := Lib.hid (show Two w w1 b0 b2 (.int .i64 (P : Int)) (.slice A n c) (.int .i64 (T : Int)) (.int .i64 0) (.slice none 0 0) (.int .i64 0) ∧ b0 = w.heap.size from ⟨t1, hb0⟩)
  have hne : b0 < b2 := by omega
  rw [← hb0]
  have c0 := t1.c0
  have c1 := t1.c1
  have c2 := t1.c2
  have d0 := t1.d0
  have d1 := t1.d1
  have d2 := t1.d2
  have f1 := t1.f1
  have f2 := t1.f2
  clear t1 b1 hb2 hb0
  go_wp2_with fail
  refine (rin_any w1 P A n c T hP a k ha (by omega)).mono ?_
  rintro e w2 ⟨rfl, b2'⟩
  have t2 := T1.out.1.below b2'
  have T2 := Lib.hid (show Two w w2 b0 b2 (.int .i64 (P : Int)) (.slice A n c) (.int .i64 (T : Int)) (.int .i64 0) (.slice none 0 0) (.int .i64 0) ∧ b0 = w.heap.size from ⟨t2, T1.out.2⟩)
  clear c0 c1 c2 d0 d1 d2 f1 f2
  have c0 := t2.c0
  have c1 := t2.c1
  have c2 := t2.c2
  have d0 := t2.d0
  have d1 := t2.d1
  have d2 := t2.d2
  have f1 := t2.f1
  have f2 := t2.f2
  clear t2 b2'
  go_wp2_with fail
  refine bodyPost_ret (v := .tuple #[.agg #[.int .i64 (P : Int), .slice A n c, .int .i64 (T : Int)], .int .i64 3]) ?_ rfl ?_
  · simp [results, go_sem, d0, d1, d2]
  · have hb := T2.out.1.low
    have hlt := T2.out.1.lt
    refine ⟨rfl, ((T2.out.1.bel.setCell (p := ⟨b2, 0, none⟩) (by show _ ≤ b2; omega) _).setCell (p := ⟨b2, 1, none⟩) (by show _ ≤ b2; omega) _).setCell (p := ⟨b2, 2, none⟩) (by show _ ≤ b2; omega) _⟩
set_option maxHeartbeats 1000000 in
theorem rcopy_arg (w : World) (P : Nat) (A : Option Addr) (n c T : Nat) (hP : P ≤ 1048576) (t a k : Nat) (ht : t < 18446744073709551616) (ha : a < 18446744073709551616) (hkb : k < 18446744073709551616) (hin : M.inB t k (P * 4096) = true) (hin2 : M.inB a k (P * 4096) = true) (h1 : 1048576 < k) :
    Calls Try.prog 20 #[refV P A n c T, .int .u64 t, .int .u64 a, .int .u64 k] w fun r w' => r = .returned (.tuple #[refV P A n c T, .int .i64 1]) ∧ Below w.heap.size w w' := by
  have hd : decide ((1048576 : Int) < (k : Int)) = true := by simp; omega
  clear h1
  go_enter Try.func20, Try.ntmps20
  go_wp2_with fail
  refine (rin_any _ P A n c T hP t k ht (by omega)).mono ?_
  rintro e w1 ⟨rfl, b1⟩
  have t1 := (two_made w (.int .i64 (P : Int)) (.slice A n c) (.int .i64 (T : Int))).below b1
  generalize hb2 : w.heap.size + 1 = b2 at t1 ⊢
  obtain ⟨b0, hb0⟩ : ∃ b0, b0 = w.heap.size := ⟨_, rfl⟩
  rw [← hb0] at t1
  have T1 := Lib.hid (show Two w w1 b0 b2 (.int .i64 (P : Int)) (.slice A n c) (.int .i64 (T : Int)) (.int .i64 0) (.slice none 0 0) (.int .i64 0) ∧ b0 = w.heap.size from ⟨t1, hb0⟩)
  have hne : b0 < b2 := by omega
  rw [← hb0]
  have c0 := t1.c0
  have c1 := t1.c1
  have c2 := t1.c2
  have d0 := t1.d0
  have d1 := t1.d1
  have d2 := t1.d2
  have f1 := t1.f1
  have f2 := t1.f2
  clear t1 b1 hb2 hb0
  go_wp2_with fail
  refine (rin_any w1 P A n c T hP a k ha (by omega)).mono ?_
  rintro e w2 ⟨rfl, b2'⟩
  have t2 := T1.out.1.below b2'
  have T2 := Lib.hid (show Two w w2 b0 b2 (.int .i64 (P : Int)) (.slice A n c) (.int .i64 (T : Int)) (.int .i64 0) (.slice none 0 0) (.int .i64 0) ∧ b0 = w.heap.size from ⟨t2, T1.out.2⟩)
  clear c0 c1 c2 d0 d1 d2 f1 f2
  have c0 := t2.c0
  have c1 := t2.c1
  have c2 := t2.c2
  have d0 := t2.d0
  have d1 := t2.d1
  have d2 := t2.d2
  have f1 := t2.f1
  have f2 := t2.f2
  clear t2 b2'
  go_wp2_with fail
  refine bodyPost_ret (v := .tuple #[.agg #[.int .i64 (P : Int), .slice A n c, .int .i64 (T : Int)], .int .i64 1]) ?_ rfl ?_
  · simp [results, go_sem, d0, d1, d2]
  · have hb := T2.out.1.low
    have hlt := T2.out.1.lt
    refine ⟨rfl, ((T2.out.1.bel.setCell (p := ⟨b2, 0, none⟩) (by show _ ≤ b2; omega) _).setCell (p := ⟨b2, 1, none⟩) (by show _ ≤ b2; omega) _).setCell (p := ⟨b2, 2, none⟩) (by show _ ≤ b2; omega) _⟩
set_option maxHeartbeats 4000000 in
theorem rcopy_ok (w : World) (P : Nat) (A : Option Addr) (n c T : Nat) (hP : P ≤ 1048576) (l : List M.Ent) (hn : n = l.length) (hl : LogAt w A l) (hok : ∀ e ∈ l, EntOk e) (hb : n ≤ 900) (h0 : n = 0 → A = none ∧ c = 0) (t a k : Nat) (ht : t < 18446744073709551616) (ha : a < 18446744073709551616) (hkb : k < 18446744073709551616) (tk1 tk2 tk : Nat) (htk : tk1 = M.touched t k ∧ tk2 = M.touched a k ∧ tk = tk1 + tk2) (hk : k ≤ 1048576) (hin : M.inB t k (P * 4096) = true) (hin2 : M.inB a k (P * 4096) = true) (hT : T + tk < 9223372036854775808) :
    Calls Try.prog 20 #[refV P A n c T, .int .u64 t, .int .u64 a, .int .u64 k] w fun r w' => ∃ g c', r = .returned (.tuple #[refV P (some ⟨g, 0, none⟩) (n + 1) c' (T + tk), .int .i64 0]) ∧ LogAt w' (some ⟨g, 0, none⟩) (l ++ [⟨t, k, M.rd (M.byteAt l) a k, false⟩]) ∧ w.heap.size ≤ g ∧ g < w'.heap.size ∧ Below w.heap.size w w' := by
  have hi := inB_in hin
  have hi2 := inB_in hin2
  have hd : decide ((1048576 : Int) < (k : Int)) = false := by simp; omega
  have hsum : IntKind.i64.wrap ((tk1 : Int) + (tk2 : Int)) = (tk : Int) := by rw [IntWalk.i64_in _ (by omega)]; omega
  have HL := Lib.hid (show n = l.length ∧ LogAt w A l ∧ (∀ e ∈ l, EntOk e) ∧ tk1 = M.touched t k ∧ tk2 = M.touched a k from ⟨hn, hl, hok, htk.1, htk.2.1⟩)
  clear hn hl hok htk
  go_enter Try.func20, Try.ntmps20
  go_wp2_with fail
  refine (rin_any _ P A n c T hP t k ht (by omega)).mono ?_
  rintro e w1 ⟨rfl, b1⟩
  have t1 := (two_made w (.int .i64 (P : Int)) (.slice A n c) (.int .i64 (T : Int))).below b1
  generalize hb2 : w.heap.size + 1 = b2 at t1 ⊢
  obtain ⟨b0, hb0⟩ : ∃ b0, b0 = w.heap.size := ⟨_, rfl⟩
  rw [← hb0] at t1
  have T1 := Lib.hid (show Two w w1 b0 b2 (.int .i64 (P : Int)) (.slice A n c) (.int .i64 (T : Int)) (.int .i64 0) (.slice none 0 0) (.int .i64 0) ∧ b0 = w.heap.size from ⟨t1, hb0⟩)
  have hne : b0 < b2 := by omega
  rw [← hb0]
  have c0 := t1.c0
  have c1 := t1.c1
  have c2 := t1.c2
  have d0 := t1.d0
  have d1 := t1.d1
  have d2 := t1.d2
  have f1 := t1.f1
  have f2 := t1.f2
  clear t1 b1 hb2 hb0
  go_wp2_with fail
  refine (rin_any w1 P A n c T hP a k ha (by omega)).mono ?_
  rintro e w2 ⟨rfl, b2'⟩
  have t2 := T1.out.1.below b2'
  have T2 := Lib.hid (show Two w w2 b0 b2 (.int .i64 (P : Int)) (.slice A n c) (.int .i64 (T : Int)) (.int .i64 0) (.slice none 0 0) (.int .i64 0) ∧ b0 = w.heap.size from ⟨t2, T1.out.2⟩)
  clear c0 c1 c2 d0 d1 d2 f1 f2
  have c0 := t2.c0
  have c1 := t2.c1
  have c2 := t2.c2
  have d0 := t2.d0
  have d1 := t2.d1
  have d2 := t2.d2
  have f1 := t2.f1
  have f2 := t2.f2
  clear t2 b2'
  have T2d := Lib.hid (show Two w w2.drew b0 b2 (.int .i64 (P : Int)) (.slice A n c) (.int .i64 (T : Int)) (.int .i64 0) (.slice none 0 0) (.int .i64 0) from T2.out.1.below (Below.refl _ _).drew)
  go_wp2_with fail
  go_region_with (first
    | (go_at_call 24
       refine (rbytes_any w2.drew P A n c T l HL.out.1 (Lies.below HL.out.2.1 T2d.out.bel) HL.out.2.2.1 (by omega) a k (by omega) hk).mono ?_
       rintro e w3 ⟨rfl, b3⟩
       have t3 := T2d.out.below b3
       have T3 := Lib.hid (show Two w w3 b0 b2 (.int .i64 (P : Int)) (.slice A n c) (.int .i64 (T : Int)) (.int .i64 0) (.slice none 0 0) (.int .i64 0) ∧ True from ⟨t3, trivial⟩)
       have r0 := t3.c0
       have r1 := t3.c1
       have r2 := t3.c2
       clear t3 b3)
    | (go_at_call_of 30 (Value.int IntKind.u64 (t : Int)); refine (rtouched_any t k (by omega) _).mono ?_; rintro e w' ⟨rfl, rfl⟩; rw [← HL.out.2.2.2.1])
    | (go_at_call 30; refine (rtouched_any a k (by omega) _).mono ?_; rintro e w' ⟨rfl, rfl⟩; rw [← HL.out.2.2.2.2])
    | (go_at_call 35
       refine (rput_any w3 P A n c T tk l ⟨t, k, M.rd (M.byteAt l) a k, false⟩ HL.out.1 (Lies.below HL.out.2.1 (T3.out.1.bel)) (by omega) h0 hT).mono ?_
       rintro e w5 ⟨g, c5, rfl, hlog, hg1, hg2, b5⟩
       have t5 := T3.out.1.below b5
       have q0 := t5.d0
       have q1 := t5.d1
       have q2 := t5.d2
       have qf := t5.f2
       have hgb : b2 < g := Nat.lt_of_lt_of_le (lt_of_cell T3.out.1.d0) hg1
       have PP : ∀ v0 v1 v2, LogAt (((w5.setCell ⟨b2, 0, none⟩ v0).setCell ⟨b2, 1, none⟩ v1).setCell ⟨b2, 2, none⟩ v2) (some ⟨g, 0, none⟩) (l ++ [⟨t, k, M.rd (M.byteAt l) a k, false⟩]) ∧ w.heap.size ≤ g ∧ g < (((w5.setCell ⟨b2, 0, none⟩ v0).setCell ⟨b2, 1, none⟩ v1).setCell ⟨b2, 2, none⟩ v2).heap.size ∧ Below w.heap.size w (((w5.setCell ⟨b2, 0, none⟩ v0).setCell ⟨b2, 1, none⟩ v1).setCell ⟨b2, 2, none⟩ v2) := fun v0 v1 v2 => by
         have kk := (((Kept.refl w5 (fun b => b = b2)).setCell (p := ⟨b2, 0, none⟩) (fun _ => rfl) v0).setCell (p := ⟨b2, 1, none⟩) (fun _ => rfl) v1).setCell (p := ⟨b2, 2, none⟩) (fun _ => rfl) v2
         have hl2 := t5.low
         have hlt := t5.lt
         refine ⟨kk.lies hlog (fun _ ad e h => ?_), by omega, Nat.lt_of_lt_of_le hg2 kk.size, ((t5.bel.setCell (p := ⟨b2, 0, none⟩) (by show _ ≤ b2; omega) v0).setCell (p := ⟨b2, 1, none⟩) (by show _ ≤ b2; omega) v1).setCell (p := ⟨b2, 2, none⟩) (by show _ ≤ b2; omega) v2⟩
         injection e with e
         rw [← e] at h
         have h : g = b2 := h
         omega
       have PP := Lib.hid (PP (.int .i64 (P : Int)) (.slice (some ⟨g, 0, none⟩) (n + 1) c5) (.int .i64 ((T + tk : Nat) : Int)))
       clear t5 hlog b5))
  all_goals (go_wp2_with fail)
  all_goals
    refine bodyPost_ret (v := .tuple #[.agg #[.int .i64 (P : Int), .slice (some ⟨g, 0, none⟩) (n + 1) c5, .int .i64 ((T + tk : Nat) : Int)], .int .i64 0]) ?_ rfl ?_
    · simp [results, go_sem, q0, q1, q2]
    · refine ⟨g, c5, rfl, PP.out.1, PP.out.2.1, PP.out.2.2.1, PP.out.2.2.2⟩
end Go.Proofs.Ytdchnncoddjngaa
