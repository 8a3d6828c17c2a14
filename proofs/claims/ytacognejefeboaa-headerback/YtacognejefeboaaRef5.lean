/-
  The document's Load.
-/
import Derived.Test.YtacognejefeboaaRef4
namespace Go.Proofs.Ytacognejefeboaa
open Go.ChangeShapes Go.WideShapes Go.ChangeAt Go.RowKit
set_option linter.unusedVariables false
set_option maxRecDepth 20000

theorem rput_any (w : World) (P : Nat) (A : Option Addr) (n c T tk : Nat) (l : List M.Ent) (e : M.Ent) (hn : n = l.length) (hl : LogAt w A l) (hb : n ≤ 1000) (h0 : n = 0 → A = none ∧ c = 0) (hT : T + tk < 9223372036854775808) :
    Calls Try.prog 39 #[refV P A n c T, entV e, .int .i64 (tk : Int)] w fun r w' => ∃ g c', r = .returned (refV P (some ⟨g, 0, none⟩) (n + 1) c' (T + tk)) ∧ LogAt w' (some ⟨g, 0, none⟩) (l ++ [e]) ∧ w.heap.size ≤ g ∧ g < w'.heap.size ∧ Below w.heap.size w w' := by
  by_cases hz : n = 0
  · obtain ⟨rfl, rfl⟩ := h0 hz
    subst hz
    have hl0 : l = [] := List.eq_nil_of_length_eq_zero hn.symm
    subst hl0
    exact rput_none w P T tk [] e rfl hT
  · exact rput_some w P A n c T tk l e hn hl hb (by omega) hT

theorem two_world (w : World) (S R : Array Value) :
    let W := (w.alloc (.cells S 29)).alloc (.cells R 29)
    (∀ j, W.cell? ⟨w.heap.size, j, none⟩ = S[j]?) ∧ (∀ j, W.cell? ⟨w.heap.size + 1, j, none⟩ = R[j]?) ∧ (∀ j, W.frozen? ⟨w.heap.size, j, none⟩ = false) ∧ (∀ j, W.frozen? ⟨w.heap.size + 1, j, none⟩ = false) ∧
      W.heap.size = w.heap.size + 2 ∧ Kept w W (fun _ => False) := by
  intro W
  have z1 : (w.alloc (.cells S 29)).heap.size = w.heap.size + 1 := by simp
  have z3 : W.heap.size = w.heap.size + 2 := by show (World.alloc _ _).heap.size = _; simp
  have b0 : W.heap[w.heap.size]? = (w.alloc (.cells S 29)).heap[w.heap.size]? := by
    show (World.alloc _ _).heap[w.heap.size]? = _
    rw [Below.heap_alloc _ _ _ (by rw [z1]; omega)]
  refine ⟨fun j => ?_, fun j => ?_, fun j => ?_, fun j => ?_, z3, ((Kept.refl w (fun _ => False)).alloc _).alloc _⟩
  · rw [World.cell?_of_block (a := ⟨w.heap.size, j, none⟩) b0, World.cell?_alloc_mark]
  · have := World.cell?_alloc_mark (w.alloc (.cells S 29)) R 29 (0, 0) j
    rw [z1] at this
    exact this
  · rw [World.frozen?_of_block (a := ⟨w.heap.size, j, none⟩) b0, World.frozen?_alloc_mark]
    simp
  · have := World.frozen?_alloc_mark (w.alloc (.cells S 29)) R 29 0 0 j
    rw [z1] at this
    rw [this]
    simp

/-- What a function of the document's space has of its own: its argument, and its answer. -/
structure Two (w W : World) (b1 b2 : Nat) (v0 v1 v2 r0 r1 r2 : Value) : Prop where
  c0 : W.cell? ⟨b1, 0, none⟩ = some v0
  c1 : W.cell? ⟨b1, 1, none⟩ = some v1
  c2 : W.cell? ⟨b1, 2, none⟩ = some v2
  d0 : W.cell? ⟨b2, 0, none⟩ = some r0
  d1 : W.cell? ⟨b2, 1, none⟩ = some r1
  d2 : W.cell? ⟨b2, 2, none⟩ = some r2
  f1 : ∀ j, W.frozen? ⟨b1, j, none⟩ = false
  f2 : ∀ j, W.frozen? ⟨b2, j, none⟩ = false
  lt : b1 < b2
  low : w.heap.size ≤ b1
  bel : Below w.heap.size w W
theorem Two.below {w W W' : World} {b1 b2 : Nat} {v0 v1 v2 r0 r1 r2 : Value} (h : Two w W b1 b2 v0 v1 v2 r0 r1 r2) (hb : Below W.heap.size W W') : Two w W' b1 b2 v0 v1 v2 r0 r1 r2 :=
  ⟨(hb.cell (lt_of_cell h.c0)).trans h.c0, (hb.cell (lt_of_cell h.c1)).trans h.c1, (hb.cell (lt_of_cell h.c2)).trans h.c2, (hb.cell (lt_of_cell h.d0)).trans h.d0, (hb.cell (lt_of_cell h.d1)).trans h.d1, (hb.cell (lt_of_cell h.d2)).trans h.d2,
    fun j => (World.frozen?_of_block (hb.block b1 (lt_of_cell h.c0))).trans (h.f1 j), fun j => (World.frozen?_of_block (hb.block b2 (lt_of_cell h.d0))).trans (h.f2 j), h.lt, h.low, below_call h.bel hb⟩
theorem two_made (w : World) (v0 v1 v2 : Value) : Two w ((w.alloc (.cells #[v0, v1, v2] 29)).alloc (.cells #[.int .i64 0, .slice none 0 0, .int .i64 0] 29)) w.heap.size (w.heap.size + 1) v0 v1 v2 (.int .i64 0) (.slice none 0 0) (.int .i64 0) := by
  obtain ⟨f0, f1, f3, f4, f5, f6⟩ := two_world w #[v0, v1, v2] #[.int .i64 0, .slice none 0 0, .int .i64 0]
  exact ⟨f0 0, f0 1, f0 2, f1 0, f1 1, f1 2, f3, f4, by omega, Nat.le_refl _, f6.below (Nat.le_refl _) (fun _ h => h.elim)⟩

set_option maxHeartbeats 1000000 in
theorem rload_no (w : World) (P : Nat) (A : Option Addr) (n c T : Nat) (hP : P ≤ 1048576) (a k : Nat) (ha : a < 18446744073709551616) (hk : k < 18446744073709551616) (hin : M.inB a k (P * 4096) = false) :
    Calls Try.prog 32 #[refV P A n c T, .int .u64 a, .int .u64 k] w fun r w' => r = .returned (.tuple #[refV P A n c T, .string ⟨#[]⟩, .int .i64 3]) ∧ Below w.heap.size w w' := by
  go_enter Try.func32, Try.ntmps32
  go_wp2_with fail
  refine (rin_any _ P A n c T hP a k ha hk).mono ?_
  rintro e w1 ⟨rfl, b1⟩
  have t1 := (two_made w (.int .i64 (P : Int)) (.slice A n c) (.int .i64 (T : Int))).below b1
  generalize hb2 : w.heap.size + 1 = b2 at t1 ⊢
  obtain ⟨b0, hb0⟩ : ∃ b0, b0 = w.heap.size := ⟨_, rfl⟩
  rw [← hb0] at t1
  have T1 := Lib.hid (show Two w w1 b0 b2 (.int .i64 (P : Int)) (.slice A n c) (.int .i64 (T : Int)) (.int .i64 0) (.slice none 0 0) (.int .i64 0) ∧ b0 = w.heap.size from ⟨t1, hb0⟩)
  have hne : b0 < b2 := by omega
  rw [← hb0]
  have c0 := t1.c0
  have c1 := t1.c1
  have c2 := t1.c2
  have d0 := t1.d0
  have d1 := t1.d1
  have d2 := t1.d2
  have f1 := t1.f1
  have f2 := t1.f2
  clear t1 b1 hb2 hb0
  go_wp2_with fail
  refine bodyPost_ret (v := .tuple #[.agg #[.int .i64 (P : Int), .slice A n c, .int .i64 (T : Int)], .string ⟨#[]⟩, .int .i64 3]) ?_ rfl ?_
  · simp [results, go_sem, d0, d1, d2]
  · have hb := T1.out.1.low
    have hlt := T1.out.1.lt
    refine ⟨rfl, ((T1.out.1.bel.setCell (p := ⟨b2, 0, none⟩) (by show _ ≤ b2; omega) _).setCell (p := ⟨b2, 1, none⟩) (by show _ ≤ b2; omega) _).setCell (p := ⟨b2, 2, none⟩) (by show _ ≤ b2; omega) _⟩
set_option maxHeartbeats 1000000 in
theorem rload_arg (w : World) (P : Nat) (A : Option Addr) (n c T : Nat) (hP : P ≤ 1048576) (a k : Nat) (ha : a < 18446744073709551616) (hk : k < 18446744073709551616) (hin : M.inB a k (P * 4096) = true) (h1 : 1048576 < k) :
    Calls Try.prog 32 #[refV P A n c T, .int .u64 a, .int .u64 k] w fun r w' => r = .returned (.tuple #[refV P A n c T, .string ⟨#[]⟩, .int .i64 1]) ∧ Below w.heap.size w w' := by
  have hd : decide ((1048576 : Int) < (k : Int)) = true := by simp; omega
  clear h1
  go_enter Try.func32, Try.ntmps32
  go_wp2_with fail
  refine (rin_any _ P A n c T hP a k ha hk).mono ?_
  rintro e w1 ⟨rfl, b1⟩
  have t1 := (two_made w (.int .i64 (P : Int)) (.slice A n c) (.int .i64 (T : Int))).below b1
  generalize hb2 : w.heap.size + 1 = b2 at t1 ⊢
  obtain ⟨b0, hb0⟩ : ∃ b0, b0 = w.heap.size := ⟨_, rfl⟩
  rw [← hb0] at t1
  have T1 := Lib.hid (show Two w w1 b0 b2 (.int .i64 (P : Int)) (.slice A n c) (.int .i64 (T : Int)) (.int .i64 0) (.slice none 0 0) (.int .i64 0) ∧ b0 = w.heap.size from ⟨t1, hb0⟩)
  have hne : b0 < b2 := by omega
  rw [← hb0]
  have c0 := t1.c0
  have c1 := t1.c1
  have c2 := t1.c2
  have d0 := t1.d0
  have d1 := t1.d1
  have d2 := t1.d2
  have f1 := t1.f1
  have f2 := t1.f2
  clear t1 b1 hb2 hb0
  go_wp2_with fail
  refine bodyPost_ret (v := .tuple #[.agg #[.int .i64 (P : Int), .slice A n c, .int .i64 (T : Int)], .string ⟨#[]⟩, .int .i64 1]) ?_ rfl ?_
  · simp [results, go_sem, d0, d1, d2]
  · have hb := T1.out.1.low
    have hlt := T1.out.1.lt
    refine ⟨rfl, ((T1.out.1.bel.setCell (p := ⟨b2, 0, none⟩) (by show _ ≤ b2; omega) _).setCell (p := ⟨b2, 1, none⟩) (by show _ ≤ b2; omega) _).setCell (p := ⟨b2, 2, none⟩) (by show _ ≤ b2; omega) _⟩
set_option maxHeartbeats 1000000 in
theorem rload_ok (w : World) (P : Nat) (A : Option Addr) (n c T : Nat) (hP : P ≤ 1048576) (l : List M.Ent) (hn : n = l.length) (hl : LogAt w A l) (hok : ∀ e ∈ l, EntOk e) (hb : n ≤ 900) (h0 : n = 0 → A = none ∧ c = 0) (a k tk : Nat) (htk : tk = M.touched a k) (ha : a < 18446744073709551616) (hk : k ≤ 1048576) (hin : M.inB a k (P * 4096) = true) (hT : T + tk < 9223372036854775808) :
    Calls Try.prog 32 #[refV P A n c T, .int .u64 a, .int .u64 k] w fun r w' => r = .returned (.tuple #[refV P A n c (T + tk), .string ⟨(M.rd (M.byteAt l) a k).toArray⟩, .int .i64 0]) ∧ Below w.heap.size w w' := by
  have hi := inB_in hin
  have hd : decide ((1048576 : Int) < (k : Int)) = false := by simp; omega
  have HL := Lib.hid (show n = l.length ∧ LogAt w A l ∧ (∀ e ∈ l, EntOk e) ∧ tk = M.touched a k from ⟨hn, hl, hok, htk⟩)
  clear hn hl hok htk
  go_enter Try.func32, Try.ntmps32
  go_wp2_with fail
  refine (rin_any _ P A n c T hP a k ha (by omega)).mono ?_
  rintro e w1 ⟨rfl, b1⟩
  have t1 := (two_made w (.int .i64 (P : Int)) (.slice A n c) (.int .i64 (T : Int))).below b1
  generalize hb2 : w.heap.size + 1 = b2 at t1 ⊢
  obtain ⟨b0, hb0⟩ : ∃ b0, b0 = w.heap.size := ⟨_, rfl⟩
  rw [← hb0] at t1
  have T1 := Lib.hid (show Two w w1 b0 b2 (.int .i64 (P : Int)) (.slice A n c) (.int .i64 (T : Int)) (.int .i64 0) (.slice none 0 0) (.int .i64 0) ∧ b0 = w.heap.size from ⟨t1, hb0⟩)
  have hne : b0 < b2 := by omega
  rw [← hb0]
  have c0 := t1.c0
  have c1 := t1.c1
  have c2 := t1.c2
  have d0 := t1.d0
  have d1 := t1.d1
  have d2 := t1.d2
  have f1 := t1.f1
  have f2 := t1.f2
  clear t1 b1 hb2 hb0
  go_wp2_with fail
  refine (rbytes_any w1 P A n c T l HL.out.1 (Lies.below HL.out.2.1 T1.out.1.bel) HL.out.2.2.1 (by omega) a k (by omega) hk).mono ?_
  rintro e w2 ⟨rfl, b2'⟩
  have t2 := T1.out.1.below b2'
  have T2 := Lib.hid (show Two w w2 b0 b2 (.int .i64 (P : Int)) (.slice A n c) (.int .i64 (T : Int)) (.int .i64 0) (.slice none 0 0) (.int .i64 0) ∧ b0 = w.heap.size from ⟨t2, T1.out.2⟩)
  clear c0 c1 c2 d0 d1 d2 f1 f2
  have c0 := t2.c0
  have c1 := t2.c1
  have c2 := t2.c2
  have d0 := t2.d0
  have d1 := t2.d1
  have d2 := t2.d2
  have f1 := t2.f1
  have f2 := t2.f2
  clear t2 b2'
  have hwr : IntKind.i64.wrap ((T : Int) + (tk : Int)) = (T : Int) + (tk : Int) := IntWalk.i64_in _ (by omega)
  have hne' : b0 ≠ b2 := by omega
  have hne'' : b2 ≠ b0 := by omega
  go_wp2_with fail
  go_region_with (go_at_call 40; refine (rtouched_any a k (by omega) _).mono ?_; rintro e w' ⟨rfl, rfl⟩; rw [← HL.out.2.2.2])
  all_goals (go_wp2_with fail)
  all_goals
    refine bodyPost_ret (v := .tuple #[.agg #[.int .i64 (P : Int), .slice A n c, .int .i64 ((T : Int) + (tk : Int))], .string ⟨(M.rd (M.byteAt l) a k).toArray⟩, .int .i64 0]) ?_ rfl ?_
    · simp [results, go_sem, d0, d1, d2]
    · have hl := T2.out.1.low
      refine ⟨by simp [refV], ?_⟩
      repeat (first | exact T2.out.1.bel | refine Below.drew ?_ | refine Below.setCell ?_ (by show _ ≤ b2; omega) _ | refine Below.setCell ?_ (by show _ ≤ b0; omega) _)
set_option maxHeartbeats 1000000 in
theorem rstore_no (w : World) (P : Nat) (A : Option Addr) (n c T : Nat) (hP : P ≤ 1048576) (a k : Nat) (xs : List UInt8) (hxs : xs.length = k) (ha : a < 18446744073709551616) (hkb : k < 9223372036854775807) (hin : M.inB a k (P * 4096) = false) :
    Calls Try.prog 21 #[refV P A n c T, .int .u64 a, .string ⟨xs.toArray⟩] w fun r w' => r = .returned (.tuple #[refV P A n c T, .int .i64 3]) ∧ Below w.heap.size w w' := by
  go_enter Try.func21, Try.ntmps21
  go_wp2_with fail
  refine (rin_any _ P A n c T hP a k ha (by omega)).mono ?_
  rintro e w1 ⟨rfl, b1⟩
  have t1 := (two_made w (.int .i64 (P : Int)) (.slice A n c) (.int .i64 (T : Int))).below b1
  generalize hb2 : w.heap.size + 1 = b2 at t1 ⊢
  obtain ⟨b0, hb0⟩ : ∃ b0, b0 = w.heap.size := ⟨_, rfl⟩
  rw [← hb0] at t1
  have T1 := Lib.hid (show Two w w1 b0 b2 (.int .i64 (P : Int)) (.slice A n c) (.int .i64 (T : Int)) (.int .i64 0) (.slice none 0 0) (.int .i64 0) ∧ b0 = w.heap.size from ⟨t1, hb0⟩)
  have hne : b0 < b2 := by omega
  rw [← hb0]
  have c0 := t1.c0
  have c1 := t1.c1
  have c2 := t1.c2
  have d0 := t1.d0
  have d1 := t1.d1
  have d2 := t1.d2
  have f1 := t1.f1
  have f2 := t1.f2
  clear t1 b1 hb2 hb0
  go_wp2_with fail
  refine bodyPost_ret (v := .tuple #[.agg #[.int .i64 (P : Int), .slice A n c, .int .i64 (T : Int)], .int .i64 3]) ?_ rfl ?_
  · simp [results, go_sem, d0, d1, d2]
  · have hb := T1.out.1.low
    have hlt := T1.out.1.lt
    refine ⟨rfl, ((T1.out.1.bel.setCell (p := ⟨b2, 0, none⟩) (by show _ ≤ b2; omega) _).setCell (p := ⟨b2, 1, none⟩) (by show _ ≤ b2; omega) _).setCell (p := ⟨b2, 2, none⟩) (by show _ ≤ b2; omega) _⟩
set_option maxHeartbeats 1000000 in
theorem rstore_arg (w : World) (P : Nat) (A : Option Addr) (n c T : Nat) (hP : P ≤ 1048576) (a k : Nat) (xs : List UInt8) (hxs : xs.length = k) (ha : a < 18446744073709551616) (hkb : k < 9223372036854775807) (hin : M.inB a k (P * 4096) = true) (h1 : 1048576 < k) :
    Calls Try.prog 21 #[refV P A n c T, .int .u64 a, .string ⟨xs.toArray⟩] w fun r w' => r = .returned (.tuple #[refV P A n c T, .int .i64 1]) ∧ Below w.heap.size w w' := by
  have hd : decide ((1048576 : Int) < (k : Int)) = true := by simp; omega
  clear h1
  go_enter Try.func21, Try.ntmps21
  go_wp2_with fail
  refine (rin_any _ P A n c T hP a k ha (by omega)).mono ?_
  rintro e w1 ⟨rfl, b1⟩
  have t1 := (two_made w (.int .i64 (P : Int)) (.slice A n c) (.int .i64 (T : Int))).below b1
  generalize hb2 : w.heap.size + 1 = b2 at t1 ⊢
  obtain ⟨b0, hb0⟩ : ∃ b0, b0 = w.heap.size := ⟨_, rfl⟩
  rw [← hb0] at t1
  have T1 := Lib.hid (show Two w w1 b0 b2 (.int .i64 (P : Int)) (.slice A n c) (.int .i64 (T : Int)) (.int .i64 0) (.slice none 0 0) (.int .i64 0) ∧ b0 = w.heap.size from ⟨t1, hb0⟩)
  have hne : b0 < b2 := by omega
  rw [← hb0]
  have c0 := t1.c0
  have c1 := t1.c1
  have c2 := t1.c2
  have d0 := t1.d0
  have d1 := t1.d1
  have d2 := t1.d2
  have f1 := t1.f1
  have f2 := t1.f2
  clear t1 b1 hb2 hb0
  go_wp2_with fail
  refine bodyPost_ret (v := .tuple #[.agg #[.int .i64 (P : Int), .slice A n c, .int .i64 (T : Int)], .int .i64 1]) ?_ rfl ?_
  · simp [results, go_sem, d0, d1, d2]
  · have hb := T1.out.1.low
    have hlt := T1.out.1.lt
    refine ⟨rfl, ((T1.out.1.bel.setCell (p := ⟨b2, 0, none⟩) (by show _ ≤ b2; omega) _).setCell (p := ⟨b2, 1, none⟩) (by show _ ≤ b2; omega) _).setCell (p := ⟨b2, 2, none⟩) (by show _ ≤ b2; omega) _⟩
set_option maxHeartbeats 1000000 in
theorem rstore_ok (w : World) (P : Nat) (A : Option Addr) (n c T : Nat) (hP : P ≤ 1048576) (l : List M.Ent) (hn : n = l.length) (hl : LogAt w A l) (hok : ∀ e ∈ l, EntOk e) (hb : n ≤ 900) (h0 : n = 0 → A = none ∧ c = 0) (a k : Nat) (xs : List UInt8) (hxs : xs.length = k) (ha : a < 18446744073709551616) (hkb : k < 9223372036854775807) (tk : Nat) (htk : tk = M.touched a k) (hk : k ≤ 1048576) (hin : M.inB a k (P * 4096) = true) (hT : T + tk < 9223372036854775808) :
    Calls Try.prog 21 #[refV P A n c T, .int .u64 a, .string ⟨xs.toArray⟩] w fun r w' => ∃ g c', r = .returned (.tuple #[refV P (some ⟨g, 0, none⟩) (n + 1) c' (T + tk), .int .i64 0]) ∧ LogAt w' (some ⟨g, 0, none⟩) (l ++ [⟨a, k, xs, false⟩]) ∧ w.heap.size ≤ g ∧ g < w'.heap.size ∧ Below w.heap.size w w' := by
  have hi := inB_in hin
  have hd : decide ((1048576 : Int) < (k : Int)) = false := by simp; omega
  have HL := Lib.hid (show n = l.length ∧ LogAt w A l ∧ (∀ e ∈ l, EntOk e) ∧ tk = M.touched a k from ⟨hn, hl, hok, htk⟩)
  clear hn hl hok htk
  go_enter Try.func21, Try.ntmps21
  go_wp2_with fail
  refine (rin_any _ P A n c T hP a k ha (by omega)).mono ?_
  rintro e w1 ⟨rfl, b1⟩
  have t1 := (two_made w (.int .i64 (P : Int)) (.slice A n c) (.int .i64 (T : Int))).below b1
  generalize hb2 : w.heap.size + 1 = b2 at t1 ⊢
  obtain ⟨b0, hb0⟩ : ∃ b0, b0 = w.heap.size := ⟨_, rfl⟩
  rw [← hb0] at t1
  have T1 := Lib.hid (show Two w w1 b0 b2 (.int .i64 (P : Int)) (.slice A n c) (.int .i64 (T : Int)) (.int .i64 0) (.slice none 0 0) (.int .i64 0) ∧ b0 = w.heap.size from ⟨t1, hb0⟩)
  have hne : b0 < b2 := by omega
  rw [← hb0]
  have c0 := t1.c0
  have c1 := t1.c1
  have c2 := t1.c2
  have d0 := t1.d0
  have d1 := t1.d1
  have d2 := t1.d2
  have f1 := t1.f1
  have f2 := t1.f2
  clear t1 b1 hb2 hb0
  have TW := Lib.hid (show Two w w1.drew b0 b2 (.int .i64 (P : Int)) (.slice A n c) (.int .i64 (T : Int)) (.int .i64 0) (.slice none 0 0) (.int .i64 0) ∧ True from ⟨T1.out.1.below (Below.refl _ _).drew, trivial⟩)
  go_wp2_with fail
  go_region_with (first
    | (go_at_call 40; refine (rtouched_any a k (by omega) _).mono ?_; rintro e w' ⟨rfl, rfl⟩; rw [← HL.out.2.2.2])
    | (go_at_call 39
       refine (rput_any w1.drew P A n c T tk l ⟨a, k, xs, false⟩ HL.out.1 (Lies.below HL.out.2.1 (TW.out.1.bel)) (by omega) h0 hT).mono ?_
       rintro e w5 ⟨g, c5, rfl, hlog, hg1, hg2, b5⟩
       have t5 := TW.out.1.below b5
       have q0 := t5.d0
       have q1 := t5.d1
       have q2 := t5.d2
       have qf := t5.f2
       have hgb : b2 < g := Nat.lt_of_lt_of_le (lt_of_cell TW.out.1.d0) hg1
       have PP : ∀ v0 v1 v2, LogAt (((w5.setCell ⟨b2, 0, none⟩ v0).setCell ⟨b2, 1, none⟩ v1).setCell ⟨b2, 2, none⟩ v2) (some ⟨g, 0, none⟩) (l ++ [⟨a, k, xs, false⟩]) ∧ w.heap.size ≤ g ∧ g < (((w5.setCell ⟨b2, 0, none⟩ v0).setCell ⟨b2, 1, none⟩ v1).setCell ⟨b2, 2, none⟩ v2).heap.size ∧ Below w.heap.size w (((w5.setCell ⟨b2, 0, none⟩ v0).setCell ⟨b2, 1, none⟩ v1).setCell ⟨b2, 2, none⟩ v2) := fun v0 v1 v2 => by
         have kk := (((Kept.refl w5 (fun b => b = b2)).setCell (p := ⟨b2, 0, none⟩) (fun _ => rfl) v0).setCell (p := ⟨b2, 1, none⟩) (fun _ => rfl) v1).setCell (p := ⟨b2, 2, none⟩) (fun _ => rfl) v2
         have hl2 := t5.low
         have hlt := t5.lt
         refine ⟨kk.lies hlog (fun _ ad e h => ?_), by omega, Nat.lt_of_lt_of_le hg2 kk.size, ((t5.bel.setCell (p := ⟨b2, 0, none⟩) (by show _ ≤ b2; omega) v0).setCell (p := ⟨b2, 1, none⟩) (by show _ ≤ b2; omega) v1).setCell (p := ⟨b2, 2, none⟩) (by show _ ≤ b2; omega) v2⟩
         injection e with e
         rw [← e] at h
         have h : g = b2 := h
         omega
       have PP := Lib.hid (PP (.int .i64 (P : Int)) (.slice (some ⟨g, 0, none⟩) (n + 1) c5) (.int .i64 ((T + tk : Nat) : Int)))
       clear t5 hlog b5))
  all_goals (go_wp2_with fail)
  all_goals
    refine bodyPost_ret (v := .tuple #[.agg #[.int .i64 (P : Int), .slice (some ⟨g, 0, none⟩) (n + 1) c5, .int .i64 ((T + tk : Nat) : Int)], .int .i64 0]) ?_ rfl ?_
    · simp [results, go_sem, q0, q1, q2]
    · refine ⟨g, c5, rfl, PP.out.1, PP.out.2.1, PP.out.2.2.1, PP.out.2.2.2⟩
set_option maxHeartbeats 1000000 in
theorem rzero_no (w : World) (P : Nat) (A : Option Addr) (n c T : Nat) (hP : P ≤ 1048576) (a k : Nat) (ha : a < 18446744073709551616) (hkb : k < 18446744073709551616) (hin : M.inB a k (P * 4096) = false) :
    Calls Try.prog 36 #[refV P A n c T, .int .u64 a, .int .u64 k] w fun r w' => r = .returned (.tuple #[refV P A n c T, .int .i64 3]) ∧ Below w.heap.size w w' := by
  go_enter Try.func36, Try.ntmps36
  go_wp2_with fail
  refine (rin_any _ P A n c T hP a k ha (by omega)).mono ?_
  rintro e w1 ⟨rfl, b1⟩
  have t1 := (two_made w (.int .i64 (P : Int)) (.slice A n c) (.int .i64 (T : Int))).below b1
  generalize hb2 : w.heap.size + 1 = b2 at t1 ⊢
  obtain ⟨b0, hb0⟩ : ∃ b0, b0 = w.heap.size := ⟨_, rfl⟩
  rw [← hb0] at t1
  have T1 := Lib.hid (show Two w w1 b0 b2 (.int .i64 (P : Int)) (.slice A n c) (.int .i64 (T : Int)) (.int .i64 0) (.slice none 0 0) (.int .i64 0) ∧ b0 = w.heap.size from ⟨t1, hb0⟩)
  have hne : b0 < b2 := by omega
  rw [← hb0]
  have c0 := t1.c0
  have c1 := t1.c1
  have c2 := t1.c2
  have d0 := t1.d0
  have d1 := t1.d1
  have d2 := t1.d2
  have f1 := t1.f1
  have f2 := t1.f2
  clear t1 b1 hb2 hb0
  go_wp2_with fail
  refine bodyPost_ret (v := .tuple #[.agg #[.int .i64 (P : Int), .slice A n c, .int .i64 (T : Int)], .int .i64 3]) ?_ rfl ?_
  · simp [results, go_sem, d0, d1, d2]
  · have hb := T1.out.1.low
    have hlt := T1.out.1.lt
    refine ⟨rfl, ((T1.out.1.bel.setCell (p := ⟨b2, 0, none⟩) (by show _ ≤ b2; omega) _).setCell (p := ⟨b2, 1, none⟩) (by show _ ≤ b2; omega) _).setCell (p := ⟨b2, 2, none⟩) (by show _ ≤ b2; omega) _⟩
set_option maxHeartbeats 1000000 in
theorem rzero_ok (w : World) (P : Nat) (A : Option Addr) (n c T : Nat) (hP : P ≤ 1048576) (l : List M.Ent) (hn : n = l.length) (hl : LogAt w A l) (hok : ∀ e ∈ l, EntOk e) (hb : n ≤ 900) (h0 : n = 0 → A = none ∧ c = 0) (a k : Nat) (ha : a < 18446744073709551616) (hkb : k < 18446744073709551616) (tk : Nat) (htk : tk = M.touched a k)  (hin : M.inB a k (P * 4096) = true) (hT : T + tk < 9223372036854775808) :
    Calls Try.prog 36 #[refV P A n c T, .int .u64 a, .int .u64 k] w fun r w' => ∃ g c', r = .returned (.tuple #[refV P (some ⟨g, 0, none⟩) (n + 1) c' (T + tk), .int .i64 0]) ∧ LogAt w' (some ⟨g, 0, none⟩) (l ++ [⟨a, k, [], true⟩]) ∧ w.heap.size ≤ g ∧ g < w'.heap.size ∧ Below w.heap.size w w' := by
  have hi := inB_in hin
  have HL := Lib.hid (show n = l.length ∧ LogAt w A l ∧ (∀ e ∈ l, EntOk e) ∧ tk = M.touched a k from ⟨hn, hl, hok, htk⟩)
  clear hn hl hok htk
  go_enter Try.func36, Try.ntmps36
  go_wp2_with fail
  refine (rin_any _ P A n c T hP a k ha (by omega)).mono ?_
  rintro e w1 ⟨rfl, b1⟩
  have t1 := (two_made w (.int .i64 (P : Int)) (.slice A n c) (.int .i64 (T : Int))).below b1
  generalize hb2 : w.heap.size + 1 = b2 at t1 ⊢
  obtain ⟨b0, hb0⟩ : ∃ b0, b0 = w.heap.size := ⟨_, rfl⟩
  rw [← hb0] at t1
  have T1 := Lib.hid (show Two w w1 b0 b2 (.int .i64 (P : Int)) (.slice A n c) (.int .i64 (T : Int)) (.int .i64 0) (.slice none 0 0) (.int .i64 0) ∧ b0 = w.heap.size from ⟨t1, hb0⟩)
  have hne : b0 < b2 := by omega
  rw [← hb0]
  have c0 := t1.c0
  have c1 := t1.c1
  have c2 := t1.c2
  have d0 := t1.d0
  have d1 := t1.d1
  have d2 := t1.d2
  have f1 := t1.f1
  have f2 := t1.f2
  clear t1 b1 hb2 hb0
  have TW := Lib.hid (show Two w w1.drew b0 b2 (.int .i64 (P : Int)) (.slice A n c) (.int .i64 (T : Int)) (.int .i64 0) (.slice none 0 0) (.int .i64 0) ∧ True from ⟨T1.out.1.below (Below.refl _ _).drew, trivial⟩)
  go_wp2_with fail
  go_region_with (first
    | (go_at_call 40; refine (rtouched_any a k (by omega) _).mono ?_; rintro e w' ⟨rfl, rfl⟩; rw [← HL.out.2.2.2])
    | (go_at_call 39
       refine (rput_any w1.drew P A n c T tk l ⟨a, k, [], true⟩ HL.out.1 (Lies.below HL.out.2.1 (TW.out.1.bel)) (by omega) h0 hT).mono ?_
       rintro e w5 ⟨g, c5, rfl, hlog, hg1, hg2, b5⟩
       have t5 := TW.out.1.below b5
       have q0 := t5.d0
       have q1 := t5.d1
       have q2 := t5.d2
       have qf := t5.f2
       have hgb : b2 < g := Nat.lt_of_lt_of_le (lt_of_cell TW.out.1.d0) hg1
       have PP : ∀ v0 v1 v2, LogAt (((w5.setCell ⟨b2, 0, none⟩ v0).setCell ⟨b2, 1, none⟩ v1).setCell ⟨b2, 2, none⟩ v2) (some ⟨g, 0, none⟩) (l ++ [⟨a, k, [], true⟩]) ∧ w.heap.size ≤ g ∧ g < (((w5.setCell ⟨b2, 0, none⟩ v0).setCell ⟨b2, 1, none⟩ v1).setCell ⟨b2, 2, none⟩ v2).heap.size ∧ Below w.heap.size w (((w5.setCell ⟨b2, 0, none⟩ v0).setCell ⟨b2, 1, none⟩ v1).setCell ⟨b2, 2, none⟩ v2) := fun v0 v1 v2 => by
         have kk := (((Kept.refl w5 (fun b => b = b2)).setCell (p := ⟨b2, 0, none⟩) (fun _ => rfl) v0).setCell (p := ⟨b2, 1, none⟩) (fun _ => rfl) v1).setCell (p := ⟨b2, 2, none⟩) (fun _ => rfl) v2
         have hl2 := t5.low
         have hlt := t5.lt
         refine ⟨kk.lies hlog (fun _ ad e h => ?_), by omega, Nat.lt_of_lt_of_le hg2 kk.size, ((t5.bel.setCell (p := ⟨b2, 0, none⟩) (by show _ ≤ b2; omega) v0).setCell (p := ⟨b2, 1, none⟩) (by show _ ≤ b2; omega) v1).setCell (p := ⟨b2, 2, none⟩) (by show _ ≤ b2; omega) v2⟩
         injection e with e
         rw [← e] at h
         have h : g = b2 := h
         omega
       have PP := Lib.hid (PP (.int .i64 (P : Int)) (.slice (some ⟨g, 0, none⟩) (n + 1) c5) (.int .i64 ((T + tk : Nat) : Int)))
       clear t5 hlog b5))
  all_goals (go_wp2_with fail)
  all_goals
    refine bodyPost_ret (v := .tuple #[.agg #[.int .i64 (P : Int), .slice (some ⟨g, 0, none⟩) (n + 1) c5, .int .i64 ((T + tk : Nat) : Int)], .int .i64 0]) ?_ rfl ?_
    · simp [results, go_sem, q0, q1, q2]
    · refine ⟨g, c5, rfl, PP.out.1, PP.out.2.1, PP.out.2.2.1, PP.out.2.2.2⟩
end Go.Proofs.Ytacognejefeboaa
