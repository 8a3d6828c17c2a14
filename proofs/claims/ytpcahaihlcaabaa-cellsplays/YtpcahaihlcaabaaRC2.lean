/-
  The document's Put.
-/
import Derived.Test.YtpcahaihlcaabaaRC
namespace Go.Proofs.Ytpcahaihlcaabaa
open Go.ChangeShapes Go.WideShapes Go.ChangeAt Go.RowKit
set_option linter.unusedVariables false
set_option maxRecDepth 20000

/-- What a call of the document that stores comes to. -/
def DocSt (w : World) (P : Nat) (A : Option Addr) (c T : Nat) (l : List M.Ent) (tk err : Nat) (f' : Nat → UInt8) (r : Ending) (w' : World) : Prop :=
  ∃ l' A' c' n' T', T' = T + tk ∧ r = .returned (.tuple #[refV P A' n' c' T', .int .i64 (err : Nat)]) ∧ n' = l'.length ∧ LogAt w' A' l' ∧ Fresh w w' A A' c c' l l' ∧ Below w.heap.size w w' ∧ M.byteAt l' = f' ∧ l'.length ≤ l.length + 1 ∧ (∀ e ∈ l', EntOk e)
theorem log_low {w : World} {A : Option Addr} {l : List M.Ent} (h : LogAt w A l) (h0 : 0 < (logCells l).length) (ad : Addr) (e : A = some ad) : ad.block < w.heap.size := by
  obtain ⟨ad', e', hc⟩ := h h0
  have hh := lt_of_cell (hc 0 h0)
  rw [block_of_add] at hh
  rw [e] at e'
  injection e' with e'
  rw [e']
  exact hh
/-- What was stored, when the answer has been laid. -/
theorem sto_end {w w1 w5 : World} {b2 : Nat} {A A' : Option Addr} {c c' : Nat} {l l' : List M.Ent} (hl : LogAt w A l) (hb : Below w.heap.size w w1) (h2 : w.heap.size ≤ b2) (h3 : b2 < w1.heap.size) (b5 : Below w1.heap.size w1 w5) (hlog : LogAt w5 A' l') (hf : Fresh w1 w5 A A' c c' l l') (v0 v1 v2 : Value) :
    LogAt (((w5.setCell ⟨b2, 0, none⟩ v0).setCell ⟨b2, 1, none⟩ v1).setCell ⟨b2, 2, none⟩ v2) A' l' ∧ Fresh w (((w5.setCell ⟨b2, 0, none⟩ v0).setCell ⟨b2, 1, none⟩ v1).setCell ⟨b2, 2, none⟩ v2) A A' c c' l l' ∧ Below w.heap.size w (((w5.setCell ⟨b2, 0, none⟩ v0).setCell ⟨b2, 1, none⟩ v1).setCell ⟨b2, 2, none⟩ v2) := by
  have kk := (((Kept.refl w5 (fun b => b = b2)).setCell (p := ⟨b2, 0, none⟩) (fun _ => rfl) v0).setCell (p := ⟨b2, 1, none⟩) (fun _ => rfl) v1).setCell (p := ⟨b2, 2, none⟩) (fun _ => rfl) v2
  have hz := kk.size
  have hbs := hb.size
  refine ⟨kk.lies hlog (fun h0 ad e h => ?_), ?_, (((below_call hb b5).setCell (p := ⟨b2, 0, none⟩) h2 v0).setCell (p := ⟨b2, 1, none⟩) h2 v1).setCell (p := ⟨b2, 2, none⟩) h2 v2⟩
  · have h : ad.block = b2 := h
    rcases hf with ⟨rfl, rfl, rfl⟩ | ⟨g, rfl, hg1, hg2, _⟩
    · have := log_low hl h0 ad e
      omega
    · injection e with e
      rw [← e] at h
      have h : g = b2 := h
      omega
  · rcases hf with h | ⟨g, h1, hg1, hg2, h4⟩
    · exact Or.inl h
    · exact Or.inr ⟨g, h1, by omega, by omega, h4⟩

set_option maxHeartbeats 1000000 in
theorem rput_bad (w : World) (P : Nat) (A : Option Addr) (n c T : Nat) (a v : Nat) (y : Int) (ha : a < 18446744073709551616) (hp : plB a y = false) :
    Calls Try.prog 15 #[refV P A n c T, .int .u64 a, .int .i64 y, .int .u64 v] w fun r w' => r = .returned (.tuple #[refV P A n c T, .int .i64 1]) ∧ Below w.heap.size w w' := by
  go_enter Try.func15, Try.ntmps15
  go_wp2_with fail
  refine (rright_any a y ha _).mono ?_
  rintro e w' ⟨rfl, rfl⟩
  have t1 := two_made w (.int .i64 (P : Int)) (.slice A n c) (.int .i64 (T : Int))
  generalize (w.alloc (.cells #[.int .i64 (P : Int), .slice A n c, .int .i64 (T : Int)] 29)).alloc (.cells #[.int .i64 0, .slice none 0 0, .int .i64 0] 29) = w1 at *
  generalize hb2 : w.heap.size + 1 = b2 at t1 ⊢
  obtain ⟨b0, hb0⟩ : ∃ b0, b0 = w.heap.size := ⟨_, rfl⟩
  rw [← hb0] at t1
  have T1 := Lib.hid (show Two w w1 b0 b2 (.int .i64 (P : Int)) (.slice A n c) (.int .i64 (T : Int)) (.int .i64 0) (.slice none 0 0) (.int .i64 0) ∧ b0 = w.heap.size from ⟨t1, hb0⟩)
  have hne : b0 < b2 := by omega
  rw [← hb0]
  have c0 := t1.c0
  have c1 := t1.c1
  have c2 := t1.c2
  have d0 := t1.d0
  have d1 := t1.d1
  have d2 := t1.d2
  have f1 := t1.f1
  have f2 := t1.f2
  clear t1 hb2 hb0
  go_wp2_with fail
  refine bodyPost_ret (v := .tuple #[.agg #[.int .i64 (P : Int), .slice A n c, .int .i64 (T : Int)], .int .i64 1]) ?_ rfl ?_
  · simp [results, go_sem, d0, d1, d2]
  · have hb := T1.out.1.low
    have hlt := T1.out.1.lt
    refine ⟨rfl, ((T1.out.1.bel.setCell (p := ⟨b2, 0, none⟩) (by show _ ≤ b2; omega) _).setCell (p := ⟨b2, 1, none⟩) (by show _ ≤ b2; omega) _).setCell (p := ⟨b2, 2, none⟩) (by show _ ≤ b2; omega) _⟩
set_option maxHeartbeats 2000000 in
theorem rput_go (w : World) (P : Nat) (A : Option Addr) (n c T : Nat) (l : List M.Ent) (hlg : LogAt w A l) (a k v : Nat) (hk : k = 1 ∨ k = 2 ∨ k = 4 ∨ k = 8) (hd : a % k = 0) (ha : a < 18446744073709551616) (hv : v < 18446744073709551616) (tk err : Nat) (f' : Nat → UInt8)
    (hl : ∀ w1, Below w.heap.size w w1 → Calls Try.prog 31 #[refV P A n c T, .int .u64 a, .string ⟨(M.enc k v).toArray⟩] w1 (DocSt w1 P A c T l tk err f')) :
    Calls Try.prog 15 #[refV P A n c T, .int .u64 a, .int .i64 k, .int .u64 v] w (DocSt w P A c T l tk err f') := by
  have hp := plB_nat hk hd
  have hk8 : k ≤ 8 := by omega
  have HL := Lib.hid (And.intro hl hlg)
  clear hl hk hd hlg
  go_enter Try.func15, Try.ntmps15
  go_wp2_with fail
  refine (rright_any a k ha _).mono ?_
  rintro e w' ⟨rfl, rfl⟩
  have t1 := two_made w (.int .i64 (P : Int)) (.slice A n c) (.int .i64 (T : Int))
  generalize (w.alloc (.cells #[.int .i64 (P : Int), .slice A n c, .int .i64 (T : Int)] 29)).alloc (.cells #[.int .i64 0, .slice none 0 0, .int .i64 0] 29) = w1 at *
  generalize hb2 : w.heap.size + 1 = b2 at t1 ⊢
  obtain ⟨b0, hb0⟩ : ∃ b0, b0 = w.heap.size := ⟨_, rfl⟩
  rw [← hb0] at t1
  have T1 := Lib.hid (show Two w w1.drew b0 b2 (.int .i64 (P : Int)) (.slice A n c) (.int .i64 (T : Int)) (.int .i64 0) (.slice none 0 0) (.int .i64 0) ∧ b0 = w.heap.size from ⟨t1.below (Below.refl _ _).drew, hb0⟩)
  have hne : b0 < b2 := by omega
  rw [← hb0]
  have c0 := t1.c0
  have c1 := t1.c1
  have c2 := t1.c2
  clear t1 hb2 hb0
  go_wp2_with fail
  go_region_with (first
    | (go_at_call 32
       refine (rOne_any k v hk8 hv _).mono ?_
       rintro e w3 ⟨rfl, b3⟩
       have t3 := T1.out.1.below b3
       have T3 := Lib.hid (show Two w w3 b0 b2 (.int .i64 (P : Int)) (.slice A n c) (.int .i64 (T : Int)) (.int .i64 0) (.slice none 0 0) (.int .i64 0) ∧ True from ⟨t3, trivial⟩)
       have r0 := t3.c0
       have r1 := t3.c1
       have r2 := t3.c2
       clear t3 b3)
    | (go_at_call 31
       refine (HL.out.1 w3 T3.out.1.bel).mono ?_
       rintro e w5 ⟨l', A', c', n', T', hT', rfl, hn', hlog, hfr, b5, hrest⟩
       have t5 := T3.out.1.below b5
       have q0 := t5.d0
       have q1 := t5.d1
       have q2 := t5.d2
       have qf := t5.f2
       have PP := Lib.hid (And.intro (sto_end (v0 := .int .i64 (P : Int)) (v1 := .slice A' n' c') (v2 := .int .i64 (T' : Int)) HL.out.2 T3.out.1.bel (Nat.le_trans T3.out.1.low (Nat.le_of_lt T3.out.1.lt)) (lt_of_cell T3.out.1.d0) b5 hlog hfr) (And.intro hT' (And.intro hn' hrest)))
       clear t5 hlog hfr b5 hT' hn' hrest))
  all_goals (go_wp2_with fail)
  all_goals
    refine bodyPost_ret (v := .tuple #[.agg #[.int .i64 (P : Int), .slice A' n' c', .int .i64 (T' : Int)], .int .i64 (err : Int)]) ?_ rfl ?_
    · simp [results, go_sem, q0, q1, q2]
    · exact ⟨l', A', c', n', T', PP.out.2.1, rfl, PP.out.2.2.1, PP.out.1.1, PP.out.1.2.1, PP.out.1.2.2, PP.out.2.2.2⟩
end Go.Proofs.Ytpcahaihlcaabaa
