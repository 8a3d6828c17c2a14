/-
  The document's Fill.
-/
import Derived.Test.YtpcahaihlcaabaaRC2
namespace Go.Proofs.Ytpcahaihlcaabaa
open Go.ChangeShapes Go.WideShapes Go.ChangeAt Go.RowKit
set_option linter.unusedVariables false
set_option maxRecDepth 20000

theorem rep_snoc (b : List UInt8) (t : Nat) : M.rep b t ++ b = M.rep b (t + 1) := by
  unfold M.rep
  rw [List.replicate_succ', List.flatten_append]
  simp
theorem str_app (a b : List UInt8) : ({ data := a.toArray } ++ { data := b.toArray } : ByteArray) = { data := (a ++ b).toArray } := ByteArray.mk_append_mk a b
set_option maxHeartbeats 4000000 in
theorem rfill_bad (w : World) (P : Nat) (A : Option Addr) (n c T : Nat) (a v : Nat) (y t : Int) (ha : a < 18446744073709551616) (h : flB a y t = false) :
    Calls Try.prog 19 #[refV P A n c T, .int .u64 a, .int .i64 y, .int .u64 v, .int .i64 t] w fun r w' => r = .returned (.tuple #[refV P A n c T, .int .i64 1]) ∧ Below w.heap.size w w' := by
  by_cases hp : plB a y = true
  · obtain ⟨k, rfl, hk, hd⟩ := plB_cases hp
    unfold flB at h
    rw [hp, Bool.true_and] at h
    have h' : t < 0 ∨ (0 ≤ t ∧ 1048576 / (k : Int) < t) := by
      by_cases h0 : t < 0
      · exact Or.inl h0
      · refine Or.inr ⟨by omega, ?_⟩
        have e0 : decide (0 ≤ t) = true := decide_eq_true (by omega)
        rw [e0, Bool.true_and] at h
        have := of_decide_eq_false h
        omega
    clear h hd
    rcases h' with h' | ⟨h0, h'⟩
    · clear hk
      go_enter Try.func19, Try.ntmps19
      go_wp2_with fail
      refine (rright_any a k ha _).mono ?_
      rintro e w' ⟨rfl, rfl⟩
      have t1 := two_made w (.int .i64 (P : Int)) (.slice A n c) (.int .i64 (T : Int))
      generalize (w.alloc (.cells #[.int .i64 (P : Int), .slice A n c, .int .i64 (T : Int)] 29)).alloc (.cells #[.int .i64 0, .slice none 0 0, .int .i64 0] 29) = w1 at *
      generalize hb2 : w.heap.size + 1 = b2 at t1 ⊢
      obtain ⟨b0, hb0⟩ : ∃ b0, b0 = w.heap.size := ⟨_, rfl⟩
      rw [← hb0] at t1
      have T1 := Lib.hid (show Two w w1 b0 b2 (.int .i64 (P : Int)) (.slice A n c) (.int .i64 (T : Int)) (.int .i64 0) (.slice none 0 0) (.int .i64 0) ∧ b0 = w.heap.size from ⟨t1, hb0⟩)
      have hne : b0 < b2 := by omega
      rw [← hb0]
      have c0 := t1.c0
      have c1 := t1.c1
      have c2 := t1.c2
      have d0 := t1.d0
      have d1 := t1.d1
      have d2 := t1.d2
      have f1 := t1.f1
      have f2 := t1.f2
      clear t1 hb2 hb0
      go_wp2_with fail
      refine bodyPost_ret (v := .tuple #[.agg #[.int .i64 (P : Int), .slice A n c, .int .i64 (T : Int)], .int .i64 1]) ?_ rfl ?_
      · simp [results, go_sem, d0, d1, d2]
      · have hb := T1.out.1.low
        have hlt := T1.out.1.lt
        refine ⟨rfl, ((T1.out.1.bel.setCell (p := ⟨b2, 0, none⟩) (by show _ ≤ b2; omega) _).setCell (p := ⟨b2, 1, none⟩) (by show _ ≤ b2; omega) _).setCell (p := ⟨b2, 2, none⟩) (by show _ ≤ b2; omega) _⟩
    · rcases hk with rfl | rfl | rfl | rfl
      · have h1 : (1048576 : Int) < t := by omega
        clear h'
        go_enter Try.func19, Try.ntmps19
        go_wp2_with fail
        refine (rright_any a 1 ha _).mono ?_
        rintro e w' ⟨rfl, rfl⟩
        have t1 := two_made w (.int .i64 (P : Int)) (.slice A n c) (.int .i64 (T : Int))
        generalize (w.alloc (.cells #[.int .i64 (P : Int), .slice A n c, .int .i64 (T : Int)] 29)).alloc (.cells #[.int .i64 0, .slice none 0 0, .int .i64 0] 29) = w1 at *
        generalize hb2 : w.heap.size + 1 = b2 at t1 ⊢
        obtain ⟨b0, hb0⟩ : ∃ b0, b0 = w.heap.size := ⟨_, rfl⟩
        rw [← hb0] at t1
        have T1 := Lib.hid (show Two w w1 b0 b2 (.int .i64 (P : Int)) (.slice A n c) (.int .i64 (T : Int)) (.int .i64 0) (.slice none 0 0) (.int .i64 0) ∧ b0 = w.heap.size from ⟨t1, hb0⟩)
        have hne : b0 < b2 := by omega
        rw [← hb0]
        have c0 := t1.c0
        have c1 := t1.c1
        have c2 := t1.c2
        have d0 := t1.d0
        have d1 := t1.d1
        have d2 := t1.d2
        have f1 := t1.f1
        have f2 := t1.f2
        clear t1 hb2 hb0
        go_wp2_with fail
        refine bodyPost_ret (v := .tuple #[.agg #[.int .i64 (P : Int), .slice A n c, .int .i64 (T : Int)], .int .i64 1]) ?_ rfl ?_
        · simp [results, go_sem, d0, d1, d2]
        · have hb := T1.out.1.low
          have hlt := T1.out.1.lt
          refine ⟨rfl, ((T1.out.1.bel.setCell (p := ⟨b2, 0, none⟩) (by show _ ≤ b2; omega) _).setCell (p := ⟨b2, 1, none⟩) (by show _ ≤ b2; omega) _).setCell (p := ⟨b2, 2, none⟩) (by show _ ≤ b2; omega) _⟩
      · have h1 : (524288 : Int) < t := by omega
        clear h'
        go_enter Try.func19, Try.ntmps19
        go_wp2_with fail
        refine (rright_any a 2 ha _).mono ?_
        rintro e w' ⟨rfl, rfl⟩
        have t1 := two_made w (.int .i64 (P : Int)) (.slice A n c) (.int .i64 (T : Int))
        generalize (w.alloc (.cells #[.int .i64 (P : Int), .slice A n c, .int .i64 (T : Int)] 29)).alloc (.cells #[.int .i64 0, .slice none 0 0, .int .i64 0] 29) = w1 at *
        generalize hb2 : w.heap.size + 1 = b2 at t1 ⊢
        obtain ⟨b0, hb0⟩ : ∃ b0, b0 = w.heap.size := ⟨_, rfl⟩
        rw [← hb0] at t1
        have T1 := Lib.hid (show Two w w1 b0 b2 (.int .i64 (P : Int)) (.slice A n c) (.int .i64 (T : Int)) (.int .i64 0) (.slice none 0 0) (.int .i64 0) ∧ b0 = w.heap.size from ⟨t1, hb0⟩)
        have hne : b0 < b2 := by omega
        rw [← hb0]
        have c0 := t1.c0
        have c1 := t1.c1
        have c2 := t1.c2
        have d0 := t1.d0
        have d1 := t1.d1
        have d2 := t1.d2
        have f1 := t1.f1
        have f2 := t1.f2
        clear t1 hb2 hb0
        go_wp2_with fail
        refine bodyPost_ret (v := .tuple #[.agg #[.int .i64 (P : Int), .slice A n c, .int .i64 (T : Int)], .int .i64 1]) ?_ rfl ?_
        · simp [results, go_sem, d0, d1, d2]
        · have hb := T1.out.1.low
          have hlt := T1.out.1.lt
          refine ⟨rfl, ((T1.out.1.bel.setCell (p := ⟨b2, 0, none⟩) (by show _ ≤ b2; omega) _).setCell (p := ⟨b2, 1, none⟩) (by show _ ≤ b2; omega) _).setCell (p := ⟨b2, 2, none⟩) (by show _ ≤ b2; omega) _⟩
      · have h1 : (262144 : Int) < t := by omega
        clear h'
        go_enter Try.func19, Try.ntmps19
        go_wp2_with fail
        refine (rright_any a 4 ha _).mono ?_
        rintro e w' ⟨rfl, rfl⟩
        have t1 := two_made w (.int .i64 (P : Int)) (.slice A n c) (.int .i64 (T : Int))
        generalize (w.alloc (.cells #[.int .i64 (P : Int), .slice A n c, .int .i64 (T : Int)] 29)).alloc (.cells #[.int .i64 0, .slice none 0 0, .int .i64 0] 29) = w1 at *
        generalize hb2 : w.heap.size + 1 = b2 at t1 ⊢
        obtain ⟨b0, hb0⟩ : ∃ b0, b0 = w.heap.size := ⟨_, rfl⟩
        rw [← hb0] at t1
        have T1 := Lib.hid (show Two w w1 b0 b2 (.int .i64 (P : Int)) (.slice A n c) (.int .i64 (T : Int)) (.int .i64 0) (.slice none 0 0) (.int .i64 0) ∧ b0 = w.heap.size from ⟨t1, hb0⟩)
        have hne : b0 < b2 := by omega
        rw [← hb0]
        have c0 := t1.c0
        have c1 := t1.c1
        have c2 := t1.c2
        have d0 := t1.d0
        have d1 := t1.d1
        have d2 := t1.d2
        have f1 := t1.f1
        have f2 := t1.f2
        clear t1 hb2 hb0
        go_wp2_with fail
        refine bodyPost_ret (v := .tuple #[.agg #[.int .i64 (P : Int), .slice A n c, .int .i64 (T : Int)], .int .i64 1]) ?_ rfl ?_
        · simp [results, go_sem, d0, d1, d2]
        · have hb := T1.out.1.low
          have hlt := T1.out.1.lt
          refine ⟨rfl, ((T1.out.1.bel.setCell (p := ⟨b2, 0, none⟩) (by show _ ≤ b2; omega) _).setCell (p := ⟨b2, 1, none⟩) (by show _ ≤ b2; omega) _).setCell (p := ⟨b2, 2, none⟩) (by show _ ≤ b2; omega) _⟩
      · have h1 : (131072 : Int) < t := by omega
        clear h'
        go_enter Try.func19, Try.ntmps19
        go_wp2_with fail
        refine (rright_any a 8 ha _).mono ?_
        rintro e w' ⟨rfl, rfl⟩
        have t1 := two_made w (.int .i64 (P : Int)) (.slice A n c) (.int .i64 (T : Int))
        generalize (w.alloc (.cells #[.int .i64 (P : Int), .slice A n c, .int .i64 (T : Int)] 29)).alloc (.cells #[.int .i64 0, .slice none 0 0, .int .i64 0] 29) = w1 at *
        generalize hb2 : w.heap.size + 1 = b2 at t1 ⊢
        obtain ⟨b0, hb0⟩ : ∃ b0, b0 = w.heap.size := ⟨_, rfl⟩
        rw [← hb0] at t1
        have T1 := Lib.hid (show Two w w1 b0 b2 (.int .i64 (P : Int)) (.slice A n c) (.int .i64 (T : Int)) (.int .i64 0) (.slice none 0 0) (.int .i64 0) ∧ b0 = w.heap.size from ⟨t1, hb0⟩)
        have hne : b0 < b2 := by omega
        rw [← hb0]
        have c0 := t1.c0
        have c1 := t1.c1
        have c2 := t1.c2
        have d0 := t1.d0
        have d1 := t1.d1
        have d2 := t1.d2
        have f1 := t1.f1
        have f2 := t1.f2
        clear t1 hb2 hb0
        go_wp2_with fail
        refine bodyPost_ret (v := .tuple #[.agg #[.int .i64 (P : Int), .slice A n c, .int .i64 (T : Int)], .int .i64 1]) ?_ rfl ?_
        · simp [results, go_sem, d0, d1, d2]
        · have hb := T1.out.1.low
          have hlt := T1.out.1.lt
          refine ⟨rfl, ((T1.out.1.bel.setCell (p := ⟨b2, 0, none⟩) (by show _ ≤ b2; omega) _).setCell (p := ⟨b2, 1, none⟩) (by show _ ≤ b2; omega) _).setCell (p := ⟨b2, 2, none⟩) (by show _ ≤ b2; omega) _⟩
  · have hp' : plB a y = false := by simpa using hp
    clear hp h
    go_enter Try.func19, Try.ntmps19
    go_wp2_with fail
    refine (rright_any a y ha _).mono ?_
    rintro e w' ⟨rfl, rfl⟩
    have t1 := two_made w (.int .i64 (P : Int)) (.slice A n c) (.int .i64 (T : Int))
    generalize (w.alloc (.cells #[.int .i64 (P : Int), .slice A n c, .int .i64 (T : Int)] 29)).alloc (.cells #[.int .i64 0, .slice none 0 0, .int .i64 0] 29) = w1 at *
    generalize hb2 : w.heap.size + 1 = b2 at t1 ⊢
    obtain ⟨b0, hb0⟩ : ∃ b0, b0 = w.heap.size := ⟨_, rfl⟩
    rw [← hb0] at t1
    have T1 := Lib.hid (show Two w w1 b0 b2 (.int .i64 (P : Int)) (.slice A n c) (.int .i64 (T : Int)) (.int .i64 0) (.slice none 0 0) (.int .i64 0) ∧ b0 = w.heap.size from ⟨t1, hb0⟩)
    have hne : b0 < b2 := by omega
    rw [← hb0]
    have c0 := t1.c0
    have c1 := t1.c1
    have c2 := t1.c2
    have d0 := t1.d0
    have d1 := t1.d1
    have d2 := t1.d2
    have f1 := t1.f1
    have f2 := t1.f2
    clear t1 hb2 hb0
    go_wp2_with fail
    refine bodyPost_ret (v := .tuple #[.agg #[.int .i64 (P : Int), .slice A n c, .int .i64 (T : Int)], .int .i64 1]) ?_ rfl ?_
    · simp [results, go_sem, d0, d1, d2]
    · have hb := T1.out.1.low
      have hlt := T1.out.1.lt
      refine ⟨rfl, ((T1.out.1.bel.setCell (p := ⟨b2, 0, none⟩) (by show _ ≤ b2; omega) _).setCell (p := ⟨b2, 1, none⟩) (by show _ ≤ b2; omega) _).setCell (p := ⟨b2, 2, none⟩) (by show _ ≤ b2; omega) _⟩
set_option maxHeartbeats 8000000 in
theorem rfill_go (w : World) (P : Nat) (A : Option Addr) (n c T : Nat) (l : List M.Ent) (hlg : LogAt w A l) (a k v t : Nat) (hk : k = 1 ∨ k = 2 ∨ k = 4 ∨ k = 8) (hd : a % k = 0) (ht : t ≤ 1048576 / k) (ha : a < 18446744073709551616) (hv : v < 18446744073709551616) (tk err : Nat) (f' : Nat → UInt8)
    (hl : ∀ w1, Below w.heap.size w w1 → Calls Try.prog 31 #[refV P A n c T, .int .u64 a, .string ⟨(M.rep (M.enc k v) t).toArray⟩] w1 (DocSt w1 P A c T l tk err f')) :
    Calls Try.prog 19 #[refV P A n c T, .int .u64 a, .int .i64 k, .int .u64 v, .int .i64 t] w (DocSt w P A c T l tk err f') := by
  have hp := plB_nat hk hd
  have HL := Lib.hid (And.intro hl hlg)
  clear hl hd hlg
  rcases hk with rfl | rfl | rfl | rfl
  · have h1 : t ≤ 1048576 := by omega
    clear ht
    go_enter Try.func19, Try.ntmps19
    go_wp2_with fail
    refine (rright_any a 1 ha _).mono ?_
    rintro e w' ⟨rfl, rfl⟩
    have t1 := two_made w (.int .i64 (P : Int)) (.slice A n c) (.int .i64 (T : Int))
    generalize (w.alloc (.cells #[.int .i64 (P : Int), .slice A n c, .int .i64 (T : Int)] 29)).alloc (.cells #[.int .i64 0, .slice none 0 0, .int .i64 0] 29) = w1 at *
    generalize hb2 : w.heap.size + 1 = b2 at t1 ⊢
    obtain ⟨b0, hb0⟩ : ∃ b0, b0 = w.heap.size := ⟨_, rfl⟩
    rw [← hb0] at t1
    have T1 := Lib.hid (show Two w w1 b0 b2 (.int .i64 (P : Int)) (.slice A n c) (.int .i64 (T : Int)) (.int .i64 0) (.slice none 0 0) (.int .i64 0) ∧ b0 = w.heap.size from ⟨t1, hb0⟩)
    have hne : b0 < b2 := by omega
    rw [← hb0]
    clear t1 hb2 hb0
    go_wp2_with fail
    go_loopw [13, 14] (fun s i wr => ∃ j : Nat, j ≤ t ∧ s = .string ⟨(M.rep (M.enc 1 v) j).toArray⟩ ∧ i = .int .i64 j ∧ Two w wr b0 b2 (.int .i64 (P : Int)) (.slice A n c) (.int .i64 (T : Int)) (.int .i64 0) (.slice none 0 0) (.int .i64 0)) (fun _ i _ => t - (intOf i).toNat)
    case atStart => exact ⟨0, by omega, rfl, rfl, T1.out.1⟩
    case round =>
      obtain ⟨j, hj, rfl, rfl, tw⟩ := hrel
      have TW := Lib.hid tw
      by_cases hlt : j < t
      · have hle : (M.rep (M.enc 1 v) j).length ≤ 1048576 := by rw [M.rep_length, M.enc_length]; omega
        have hle2 : (M.enc 1 v).length ≤ 8 := by rw [M.enc_length]; omega
        clear tw
        go_wp2_with fail
        refine (rOne_any 1 v (by omega) hv _).mono ?_
        rintro e w3 ⟨rfl, b3⟩
        have T3 := Lib.hid (TW.out.below b3)
        clear b3
        go_wp2_with fail
        go_roundw
        case rel => exact ⟨j + 1, by omega, by rw [str_app, rep_snoc], by go_num, T3.out⟩
        case measure => simp [intOf]; omega
      · obtain rfl : j = t := by omega
        have c0 := tw.c0
        have c1 := tw.c1
        have c2 := tw.c2
        clear tw hlt
        go_wp2_with fail
        refine (HL.out.1 wr TW.out.bel).mono ?_
        rintro e w5 ⟨l', A', c', n', T', hT', rfl, hn', hlog, hfr, b5, hrest⟩
        have t5 := TW.out.below b5
        have q0 := t5.d0
        have q1 := t5.d1
        have q2 := t5.d2
        have qf := t5.f2
        have PP := Lib.hid (And.intro (sto_end (v0 := .int .i64 (P : Int)) (v1 := .slice A' n' c') (v2 := .int .i64 (T' : Int)) HL.out.2 TW.out.bel (Nat.le_trans TW.out.low (Nat.le_of_lt TW.out.lt)) (lt_of_cell TW.out.d0) b5 hlog hfr) (And.intro hT' (And.intro hn' hrest)))
        clear t5 hlog hfr b5 hT' hn' hrest
        go_wp2_with fail
        refine bodyPost_ret (v := .tuple #[.agg #[.int .i64 (P : Int), .slice A' n' c', .int .i64 (T' : Int)], .int .i64 (err : Int)]) ?_ rfl ?_
        · simp [results, go_sem, q0, q1, q2]
        · exact ⟨l', A', c', n', T', PP.out.2.1, rfl, PP.out.2.2.1, PP.out.1.1, PP.out.1.2.1, PP.out.1.2.2, PP.out.2.2.2⟩
  · have h1 : t ≤ 524288 := by omega
    clear ht
    go_enter Try.func19, Try.ntmps19
    go_wp2_with fail
    refine (rright_any a 2 ha _).mono ?_
    rintro e w' ⟨rfl, rfl⟩
    have t1 := two_made w (.int .i64 (P : Int)) (.slice A n c) (.int .i64 (T : Int))
    generalize (w.alloc (.cells #[.int .i64 (P : Int), .slice A n c, .int .i64 (T : Int)] 29)).alloc (.cells #[.int .i64 0, .slice none 0 0, .int .i64 0] 29) = w1 at *
    generalize hb2 : w.heap.size + 1 = b2 at t1 ⊢
    obtain ⟨b0, hb0⟩ : ∃ b0, b0 = w.heap.size := ⟨_, rfl⟩
    rw [← hb0] at t1
    have T1 := Lib.hid (show Two w w1 b0 b2 (.int .i64 (P : Int)) (.slice A n c) (.int .i64 (T : Int)) (.int .i64 0) (.slice none 0 0) (.int .i64 0) ∧ b0 = w.heap.size from ⟨t1, hb0⟩)
    have hne : b0 < b2 := by omega
    rw [← hb0]
    clear t1 hb2 hb0
    go_wp2_with fail
    go_loopw [13, 14] (fun s i wr => ∃ j : Nat, j ≤ t ∧ s = .string ⟨(M.rep (M.enc 2 v) j).toArray⟩ ∧ i = .int .i64 j ∧ Two w wr b0 b2 (.int .i64 (P : Int)) (.slice A n c) (.int .i64 (T : Int)) (.int .i64 0) (.slice none 0 0) (.int .i64 0)) (fun _ i _ => t - (intOf i).toNat)
    case atStart => exact ⟨0, by omega, rfl, rfl, T1.out.1⟩
    case round =>
      obtain ⟨j, hj, rfl, rfl, tw⟩ := hrel
      have TW := Lib.hid tw
      by_cases hlt : j < t
      · have hle : (M.rep (M.enc 2 v) j).length ≤ 1048576 := by rw [M.rep_length, M.enc_length]; omega
        have hle2 : (M.enc 2 v).length ≤ 8 := by rw [M.enc_length]; omega
        clear tw
        go_wp2_with fail
        refine (rOne_any 2 v (by omega) hv _).mono ?_
        rintro e w3 ⟨rfl, b3⟩
        have T3 := Lib.hid (TW.out.below b3)
        clear b3
        go_wp2_with fail
        go_roundw
        case rel => exact ⟨j + 1, by omega, by rw [str_app, rep_snoc], by go_num, T3.out⟩
        case measure => simp [intOf]; omega
      · obtain rfl : j = t := by omega
        have c0 := tw.c0
        have c1 := tw.c1
        have c2 := tw.c2
        clear tw hlt
        go_wp2_with fail
        refine (HL.out.1 wr TW.out.bel).mono ?_
        rintro e w5 ⟨l', A', c', n', T', hT', rfl, hn', hlog, hfr, b5, hrest⟩
        have t5 := TW.out.below b5
        have q0 := t5.d0
        have q1 := t5.d1
        have q2 := t5.d2
        have qf := t5.f2
        have PP := Lib.hid (And.intro (sto_end (v0 := .int .i64 (P : Int)) (v1 := .slice A' n' c') (v2 := .int .i64 (T' : Int)) HL.out.2 TW.out.bel (Nat.le_trans TW.out.low (Nat.le_of_lt TW.out.lt)) (lt_of_cell TW.out.d0) b5 hlog hfr) (And.intro hT' (And.intro hn' hrest)))
        clear t5 hlog hfr b5 hT' hn' hrest
        go_wp2_with fail
        refine bodyPost_ret (v := .tuple #[.agg #[.int .i64 (P : Int), .slice A' n' c', .int .i64 (T' : Int)], .int .i64 (err : Int)]) ?_ rfl ?_
        · simp [results, go_sem, q0, q1, q2]
        · exact ⟨l', A', c', n', T', PP.out.2.1, rfl, PP.out.2.2.1, PP.out.1.1, PP.out.1.2.1, PP.out.1.2.2, PP.out.2.2.2⟩
  · have h1 : t ≤ 262144 := by omega
    clear ht
    go_enter Try.func19, Try.ntmps19
    go_wp2_with fail
    refine (rright_any a 4 ha _).mono ?_
    rintro e w' ⟨rfl, rfl⟩
    have t1 := two_made w (.int .i64 (P : Int)) (.slice A n c) (.int .i64 (T : Int))
    generalize (w.alloc (.cells #[.int .i64 (P : Int), .slice A n c, .int .i64 (T : Int)] 29)).alloc (.cells #[.int .i64 0, .slice none 0 0, .int .i64 0] 29) = w1 at *
    generalize hb2 : w.heap.size + 1 = b2 at t1 ⊢
    obtain ⟨b0, hb0⟩ : ∃ b0, b0 = w.heap.size := ⟨_, rfl⟩
    rw [← hb0] at t1
    have T1 := Lib.hid (show Two w w1 b0 b2 (.int .i64 (P : Int)) (.slice A n c) (.int .i64 (T : Int)) (.int .i64 0) (.slice none 0 0) (.int .i64 0) ∧ b0 = w.heap.size from ⟨t1, hb0⟩)
    have hne : b0 < b2 := by omega
    rw [← hb0]
    clear t1 hb2 hb0
    go_wp2_with fail
    go_loopw [13, 14] (fun s i wr => ∃ j : Nat, j ≤ t ∧ s = .string ⟨(M.rep (M.enc 4 v) j).toArray⟩ ∧ i = .int .i64 j ∧ Two w wr b0 b2 (.int .i64 (P : Int)) (.slice A n c) (.int .i64 (T : Int)) (.int .i64 0) (.slice none 0 0) (.int .i64 0)) (fun _ i _ => t - (intOf i).toNat)
    case atStart => exact ⟨0, by omega, rfl, rfl, T1.out.1⟩
    case round =>
      obtain ⟨j, hj, rfl, rfl, tw⟩ := hrel
      have TW := Lib.hid tw
      by_cases hlt : j < t
      · have hle : (M.rep (M.enc 4 v) j).length ≤ 1048576 := by rw [M.rep_length, M.enc_length]; omega
        have hle2 : (M.enc 4 v).length ≤ 8 := by rw [M.enc_length]; omega
        clear tw
        go_wp2_with fail
        refine (rOne_any 4 v (by omega) hv _).mono ?_
        rintro e w3 ⟨rfl, b3⟩
        have T3 := Lib.hid (TW.out.below b3)
        clear b3
        go_wp2_with fail
        go_roundw
        case rel => exact ⟨j + 1, by omega, by rw [str_app, rep_snoc], by go_num, T3.out⟩
        case measure => simp [intOf]; omega
      · obtain rfl : j = t := by omega
        have c0 := tw.c0
        have c1 := tw.c1
        have c2 := tw.c2
        clear tw hlt
        go_wp2_with fail
        refine (HL.out.1 wr TW.out.bel).mono ?_
        rintro e w5 ⟨l', A', c', n', T', hT', rfl, hn', hlog, hfr, b5, hrest⟩
        have t5 := TW.out.below b5
        have q0 := t5.d0
        have q1 := t5.d1
        have q2 := t5.d2
        have qf := t5.f2
        have PP := Lib.hid (And.intro (sto_end (v0 := .int .i64 (P : Int)) (v1 := .slice A' n' c') (v2 := .int .i64 (T' : Int)) HL.out.2 TW.out.bel (Nat.le_trans TW.out.low (Nat.le_of_lt TW.out.lt)) (lt_of_cell TW.out.d0) b5 hlog hfr) (And.intro hT' (And.intro hn' hrest)))
        clear t5 hlog hfr b5 hT' hn' hrest
        go_wp2_with fail
        refine bodyPost_ret (v := .tuple #[.agg #[.int .i64 (P : Int), .slice A' n' c', .int .i64 (T' : Int)], .int .i64 (err : Int)]) ?_ rfl ?_
        · simp [results, go_sem, q0, q1, q2]
        · exact ⟨l', A', c', n', T', PP.out.2.1, rfl, PP.out.2.2.1, PP.out.1.1, PP.out.1.2.1, PP.out.1.2.2, PP.out.2.2.2⟩
  · have h1 : t ≤ 131072 := by omega
    clear ht
    go_enter Try.func19, Try.ntmps19
    go_wp2_with fail
    refine (rright_any a 8 ha _).mono ?_
    rintro e w' ⟨rfl, rfl⟩
    have t1 := two_made w (.int .i64 (P : Int)) (.slice A n c) (.int .i64 (T : Int))
    generalize (w.alloc (.cells #[.int .i64 (P : Int), .slice A n c, .int .i64 (T : Int)] 29)).alloc (.cells #[.int .i64 0, .slice none 0 0, .int .i64 0] 29) = w1 at *
    generalize hb2 : w.heap.size + 1 = b2 at t1 ⊢
    obtain ⟨b0, hb0⟩ : ∃ b0, b0 = w.heap.size := ⟨_, rfl⟩
    rw [← hb0] at t1
    have T1 := Lib.hid (show Two w w1 b0 b2 (.int .i64 (P : Int)) (.slice A n c) (.int .i64 (T : Int)) (.int .i64 0) (.slice none 0 0) (.int .i64 0) ∧ b0 = w.heap.size from ⟨t1, hb0⟩)
    have hne : b0 < b2 := by omega
    rw [← hb0]
    clear t1 hb2 hb0
    go_wp2_with fail
    go_loopw [13, 14] (fun s i wr => ∃ j : Nat, j ≤ t ∧ s = .string ⟨(M.rep (M.enc 8 v) j).toArray⟩ ∧ i = .int .i64 j ∧ Two w wr b0 b2 (.int .i64 (P : Int)) (.slice A n c) (.int .i64 (T : Int)) (.int .i64 0) (.slice none 0 0) (.int .i64 0)) (fun _ i _ => t - (intOf i).toNat)
    case atStart => exact ⟨0, by omega, rfl, rfl, T1.out.1⟩
    case round =>
      obtain ⟨j, hj, rfl, rfl, tw⟩ := hrel
      have TW := Lib.hid tw
      by_cases hlt : j < t
      · have hle : (M.rep (M.enc 8 v) j).length ≤ 1048576 := by rw [M.rep_length, M.enc_length]; omega
        have hle2 : (M.enc 8 v).length ≤ 8 := by rw [M.enc_length]; omega
        clear tw
        go_wp2_with fail
        refine (rOne_any 8 v (by omega) hv _).mono ?_
        rintro e w3 ⟨rfl, b3⟩
        have T3 := Lib.hid (TW.out.below b3)
        clear b3
        go_wp2_with fail
        go_roundw
        case rel => exact ⟨j + 1, by omega, by rw [str_app, rep_snoc], by go_num, T3.out⟩
        case measure => simp [intOf]; omega
      · obtain rfl : j = t := by omega
        have c0 := tw.c0
        have c1 := tw.c1
        have c2 := tw.c2
        clear tw hlt
        go_wp2_with fail
        refine (HL.out.1 wr TW.out.bel).mono ?_
        rintro e w5 ⟨l', A', c', n', T', hT', rfl, hn', hlog, hfr, b5, hrest⟩
        have t5 := TW.out.below b5
        have q0 := t5.d0
        have q1 := t5.d1
        have q2 := t5.d2
        have qf := t5.f2
        have PP := Lib.hid (And.intro (sto_end (v0 := .int .i64 (P : Int)) (v1 := .slice A' n' c') (v2 := .int .i64 (T' : Int)) HL.out.2 TW.out.bel (Nat.le_trans TW.out.low (Nat.le_of_lt TW.out.lt)) (lt_of_cell TW.out.d0) b5 hlog hfr) (And.intro hT' (And.intro hn' hrest)))
        clear t5 hlog hfr b5 hT' hn' hrest
        go_wp2_with fail
        refine bodyPost_ret (v := .tuple #[.agg #[.int .i64 (P : Int), .slice A' n' c', .int .i64 (T' : Int)], .int .i64 (err : Int)]) ?_ rfl ?_
        · simp [results, go_sem, q0, q1, q2]
        · exact ⟨l', A', c', n', T', PP.out.2.1, rfl, PP.out.2.2.1, PP.out.1.1, PP.out.1.2.1, PP.out.1.2.2, PP.out.2.2.2⟩
end Go.Proofs.Ytpcahaihlcaabaa
