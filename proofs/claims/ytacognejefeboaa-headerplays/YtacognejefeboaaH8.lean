/-
  find, Write, Read, Link and Clear of a space that a call made.
-/
import Derived.Test.YtacognejefeboaaP8
import Derived.Deep.DeepCutAuto
namespace Go.Proofs.Ytacognejefeboaa
open Go.ChangeShapes Go.WideShapes Go.ChangeAt Go.RowKit
set_option linter.unusedVariables false
set_option maxRecDepth 20000

theorem touch_head (a : Nat) : M.touched (a * 4096) 32 = 1 := by rw [M.touched_one]; omega
section
variable {w0 w w' : World} {s P T : Nat} {f : Nat → UInt8} {O O' : Nat → Prop}
theorem Kept.new {w : World} (O : Nat → Prop) (o : Obj) : Kept w (w.alloc o) O := (Kept.refl w O).alloc o
set_option maxHeartbeats 4000000 in
theorem find_out (h : At w0 w s P T f O) (x : Int) (hx : pin P x = false) :
    Calls Try.prog 34 #[.pointer (some ⟨s, 0, none⟩), .int .i64 x] w fun e w' => e = .returned (.tuple #[.int .u64 0, hv 0 0 0 0, .int .i64 3]) ∧ Below w.heap.size w w' := by
  have x1 := Box4.new w 33 (.int .i64 0) (.int .i64 0) (.int .u64 0) (.int .u64 0)
  have b1 := below_new w (.cells #[.int .i64 0, .int .i64 0, .int .u64 0, .int .u64 0] 33)
  have hpl := place_no (h.alloc (.cells #[.int .i64 0, .int .i64 0, .int .u64 0, .int .u64 0] 33)).sp x hx
  have HP := Lib.hid hpl
  clear hpl hx h
  go_enter Try.func34, Try.ntmps34
  go_wp2_with fail
  refine HP.out.mono ?_
  rintro e w' ⟨rfl, rfl⟩
  clear HP
  generalize w.alloc (.cells #[.int .i64 0, .int .i64 0, .int .u64 0, .int .u64 0] 33) = w1 at *
  obtain ⟨g, hg⟩ : ∃ g, g = w.heap.size := ⟨_, rfl⟩
  rw [← hg] at x1 ⊢
  have X1 := Lib.hid (And.intro x1 (And.intro b1 hg))
  have a0 := x1.c0
  have a1 := x1.c1
  have a2 := x1.c2
  have a3 := x1.c3
  have fz := x1.fz
  clear x1 b1 hg
  go_wp2_with fail
  have ts := X1.out.1.set (.int .i64 0) (.int .i64 0) (.int .u64 0) (.int .u64 0)
  refine bodyPost_ret (v := .tuple #[.int .u64 0, hv 0 0 0 0, .int .i64 3]) ?_ rfl ?_
  · simp [results, go_sem, ts.c0, ts.c1, ts.c2, ts.c3]
  · exact ⟨rfl, below_set4 X1.out.2.1 (by have := X1.out.2.2; omega) _ _ _ _⟩
theorem find_nil (w : World) :
    Calls Try.prog 34 #[.pointer none, .int .i64 0] w fun e w' => e = .returned (.tuple #[.int .u64 0, hv 0 0 0 0, .int .i64 3]) ∧ Below w.heap.size w w' := by
  have x1 := Box4.new w 33 (.int .i64 0) (.int .i64 0) (.int .u64 0) (.int .u64 0)
  have b1 := below_new w (.cells #[.int .i64 0, .int .i64 0, .int .u64 0, .int .u64 0] 33)
  go_enter Try.func34, Try.ntmps34
  go_wp2_with fail
  refine (place_nil _).mono ?_
  rintro e w' ⟨rfl, rfl⟩
  generalize w.alloc (.cells #[.int .i64 0, .int .i64 0, .int .u64 0, .int .u64 0] 33) = w1 at *
  obtain ⟨g, hg⟩ : ∃ g, g = w.heap.size := ⟨_, rfl⟩
  rw [← hg] at x1 ⊢
  have X1 := Lib.hid (And.intro x1 (And.intro b1 hg))
  have a0 := x1.c0
  have a1 := x1.c1
  have a2 := x1.c2
  have a3 := x1.c3
  have fz := x1.fz
  clear x1 b1 hg
  go_wp2_with fail
  have ts := X1.out.1.set (.int .i64 0) (.int .i64 0) (.int .u64 0) (.int .u64 0)
  refine bodyPost_ret (v := .tuple #[.int .u64 0, hv 0 0 0 0, .int .i64 3]) ?_ rfl ?_
  · simp [results, go_sem, ts.c0, ts.c1, ts.c2, ts.c3]
  · exact ⟨rfl, below_set4 X1.out.2.1 (by have := X1.out.2.2; omega) _ _ _ _⟩
theorem At.set4 (b1 : At w0 w' s P T f O) (k : Kept w w' O) {g : Nat} (hno : ¬ O g) (hg0 : w0.heap.size ≤ g) (hg : w.heap.size ≤ g) (u0 u1 u2 u3 : Value) :
    At w0 ((((w'.setCell ⟨g, 0, none⟩ u0).setCell ⟨g, 1, none⟩ u1).setCell ⟨g, 2, none⟩ u2).setCell ⟨g, 3, none⟩ u3) s P T f O ∧ Kept w ((((w'.setCell ⟨g, 0, none⟩ u0).setCell ⟨g, 1, none⟩ u1).setCell ⟨g, 2, none⟩ u2).setCell ⟨g, 3, none⟩ u3) O := by
  have kk := kept_set4 w' g u0 u1 u2 u3
  exact ⟨b1.other kk (fun b hb e => hno (e ▸ hb)) (b1.bel.trans (kk.below b1.bel.size (fun i e => by omega))), k.trans kk (fun i hi e => by omega)⟩
set_option maxHeartbeats 8000000 in
theorem find_in (h : At w0 w s P T f O) (a : Nat) (ha : a < P) (q : Nat) (hq : q = a * 4096) (hT : T ≤ 900000000000) (R : Bool) (p k o n : Nat) (hR : R = M.isH (M.rd f q 32)) (hV' : hV (M.rd f q 32) = hv p k o n) :
    Calls Try.prog 34 #[.pointer (some ⟨s, 0, none⟩), .int .i64 (a : Int)] w fun e w' => e = .returned (.tuple #[.int .u64 (if R = true then (q : Int) else 0), if R = true then hv p k o n else hv 0 0 0 0, .int .i64 (if R = true then 0 else 5)]) ∧ At w0 w' s P (T + 1) f O ∧ Kept w w' O := by
  have hP := h.sp.top
  have x1 := Box4.new w 33 (.int .i64 0) (.int .i64 0) (.int .u64 0) (.int .u64 0)
  have k1 := Kept.new (w := w) O (.cells #[.int .i64 0, .int .i64 0, .int .u64 0, .int .u64 0] 33)
  have h1 := h.alloc (.cells #[.int .i64 0, .int .i64 0, .int .u64 0, .int .u64 0] 33)
  have hno : ¬ O w.heap.size := fun e => by have := h.sp.lt e; omega
  have HH := Lib.hid (And.intro h (And.intro hR (And.intro hV' (And.intro hT (And.intro hq ha)))))
  have hpl := place_yes h1.sp a ha q hq
  have HP := Lib.hid hpl
  have H1 := Lib.hid h1
  have K1 := Lib.hid k1
  clear hpl h h1 k1 hR hV' hT hq ha hP
  go_enter Try.func34, Try.ntmps34
  go_wp2_with fail
  refine HP.out.mono ?_
  rintro e w' ⟨rfl, rfl⟩
  clear HP
  generalize w.alloc (.cells #[.int .i64 0, .int .i64 0, .int .u64 0, .int .u64 0] 33) = w1 at *
  obtain ⟨g, hg⟩ : ∃ g, g = w.heap.size := ⟨_, rfl⟩
  rw [← hg] at x1 hno ⊢
  have X1 := Lib.hid (And.intro x1 (And.intro hno hg))
  clear x1 hg hno
  go_wp2_with fail
  refine (at_load H1.out q 32 (by have := HH.out.2.2.2.2; omega) (by omega) (by have := HH.out.2.2.2.1; omega)).mono ?_
  rintro e w2 ⟨gl, rfl, A2, L2, k2, _, _⟩
  have et : M.touched q 32 = 1 := by rw [HH.out.2.2.2.2.1]; exact touch_head a
  rw [et] at A2
  have H2 := Lib.hid (show At w0 w2 s P (T + 1) f O ∧ Kept w w2 O ∧ Box4 w2 g _ _ _ _ ∧ Own w2 gl (M.rd f q 32) from ⟨A2, K1.out.trans k2 (fun _ _ e => e), X1.out.1.kept k2 X1.out.2.1, L2.own⟩)
  clear A2 L2 k2 et
  go_wp2_with fail
  refine (parse_any (some ⟨gl, 0, none⟩) 32 (M.rd f q 32) (M.rd_length _ _ _) (by omega) _ H2.out.2.2.2.lies).mono ?_
  rintro e w3 ⟨rfl, b3⟩
  rw [HH.out.2.2.1, ← HH.out.2.1]
  have H3 := Lib.hid (show At w0 w3 s P (T + 1) f O ∧ Kept w w3 O ∧ Box4 w3 g _ _ _ _ from ⟨H2.out.1.same b3, H2.out.2.1.trans (Kept.of_below b3 O) (fun _ _ e => e), H2.out.2.2.1.below b3⟩)
  clear b3 H2
  go_upto_region 8 with fail
  have x4 := Box4.new w3 33 (.int .i64 (p : Int)) (.int .i64 (k : Int)) (.int .u64 (o : Int)) (.int .u64 (n : Int))
  have b4 := below_new w3 (.cells #[.int .i64 (p : Int), .int .i64 (k : Int), .int .u64 (o : Int), .int .u64 (n : Int)] 33)
  generalize w3.alloc (.cells #[.int .i64 (p : Int), .int .i64 (k : Int), .int .u64 (o : Int), .int .u64 (n : Int)] 33) = w4 at *
  obtain ⟨g4, hg4⟩ : ∃ g4, g4 = w3.heap.size := ⟨_, rfl⟩
  rw [← hg4] at x4 ⊢
  have hgg : g < g4 := by rw [hg4]; exact H3.out.2.2.lt
  have x5 := H3.out.2.2.below b4
  have H4 := Lib.hid (show At w0 w4 s P (T + 1) f O ∧ Kept w w4 O ∧ Box4 w4 g _ _ _ _ from ⟨H3.out.1.same b4, H3.out.2.1.trans (Kept.of_below b4 O) (fun _ _ e => e), x5⟩)
  have a0 := x5.c0
  have a1 := x5.c1
  have a2 := x5.c2
  have a3 := x5.c3
  have fz := x5.fz
  have e0 := x4.c0
  have e1 := x4.c1
  have e2 := x4.c2
  have e3 := x4.c3
  clear x4 x5 b4 hg4 H3
  cases R with
  | true =>
    go_wp2_with fail
    go_region
    all_goals
      go_wp2_with fail
      have ts := H4.out.2.2.set (.int .i64 (p : Int)) (.int .i64 (k : Int)) (.int .u64 (o : Int)) (.int .u64 (n : Int))
      refine bodyPost_ret (v := .tuple #[.int .u64 (q : Int), hv p k o n, .int .i64 0]) ?_ rfl ?_
      · simp [results, go_sem, ts.c0, ts.c1, ts.c2, ts.c3]
      · have r := H4.out.1.set4 H4.out.2.1 X1.out.2.1 (by rw [X1.out.2.2]; exact HH.out.1.bel.size) (by rw [X1.out.2.2]; exact Nat.le_refl _) (.int .i64 (p : Int)) (.int .i64 (k : Int)) (.int .u64 (o : Int)) (.int .u64 (n : Int))
        exact ⟨rfl, r.1.drew, r.2.drew⟩
  | false =>
    go_wp2_with fail
    have ts := H4.out.2.2.set (.int .i64 0) (.int .i64 0) (.int .u64 0) (.int .u64 0)
    refine bodyPost_ret (v := .tuple #[.int .u64 0, hv 0 0 0 0, .int .i64 5]) ?_ rfl ?_
    · simp [results, go_sem, ts.c0, ts.c1, ts.c2, ts.c3]
    · have r := H4.out.1.set4 H4.out.2.1 X1.out.2.1 (by rw [X1.out.2.2]; exact HH.out.1.bel.size) (by rw [X1.out.2.2]; exact Nat.le_refl _) (.int .i64 0) (.int .i64 0) (.int .u64 0) (.int .u64 0)
      exact ⟨rfl, r⟩

/-! What Read answers. -/
def rE (P : Nat) (f : Nat → UInt8) (x : Int) : Nat := if pin P x = true then (if M.isH (M.rd f (x.toNat * 4096) 32) = true then 0 else 5) else 3
def rV (P : Nat) (f : Nat → UInt8) (x : Int) : Value := if rE P f x = 0 then hV (M.rd f (x.toNat * 4096) 32) else hv 0 0 0 0
def rT (P : Nat) (x : Int) : Nat := if pin P x = true then 1 else 0
def rA (P : Nat) (f : Nat → UInt8) (x : Int) : Nat := if rE P f x = 0 then x.toNat * 4096 else 0
theorem rE_ok {P : Nat} {f : Nat → UInt8} {x : Int} (h : rE P f x = 0) : ∃ a : Nat, x = a ∧ a < P ∧ M.isH (M.rd f (a * 4096) 32) = true := by
  unfold rE at h
  by_cases h1 : pin P x = true
  · rw [if_pos h1] at h
    obtain ⟨a, rfl, ha⟩ := pin_yes h1
    by_cases h2 : M.isH (M.rd f (((a : Int)).toNat * 4096) 32) = true
    · exact ⟨a, rfl, ha, by simpa using h2⟩
    · rw [if_neg h2] at h; omega
  · rw [if_neg h1] at h; omega
theorem hV_hv (b : List UInt8) : ∃ p k o n : Nat, hV b = hv p k o n := by
  unfold hV
  by_cases h : M.isH b = true
  · exact ⟨_, _, _, _, by rw [if_pos h]⟩
  · exact ⟨0, 0, 0, 0, by rw [if_neg h]; rfl⟩
theorem rV_hv (P : Nat) (f : Nat → UInt8) (x : Int) : ∃ p k o n : Nat, rV P f x = hv p k o n := by
  unfold rV
  by_cases h : rE P f x = 0
  · rw [if_pos h]; exact hV_hv _
  · exact ⟨0, 0, 0, 0, by rw [if_neg h]; rfl⟩
theorem at_find (h : At w0 w s P T f O) (x : Int) (hT : T ≤ 900000000000) :
    Calls Try.prog 34 #[.pointer (some ⟨s, 0, none⟩), .int .i64 x] w fun e w' => e = .returned (.tuple #[.int .u64 (rA P f x : Nat), rV P f x, .int .i64 (rE P f x : Nat)]) ∧ At w0 w' s P (T + rT P x) f O ∧ Kept w w' O := by
  by_cases hx : pin P x = true
  · obtain ⟨a, rfl, ha⟩ := pin_yes hx
    obtain ⟨p, k, o, n, hv'⟩ := hV_hv (M.rd f (a * 4096) 32)
    have q := find_in h a ha (a * 4096) rfl hT _ p k o n rfl hv'
    have eT : rT P (a : Int) = 1 := by unfold rT; rw [if_pos hx]
    rw [eT]
    by_cases hR : M.isH (M.rd f (a * 4096) 32) = true
    · have eE : rE P f (a : Int) = 0 := by unfold rE; rw [if_pos hx, Int.toNat_natCast, if_pos hR]
      have eV : rV P f (a : Int) = hv p k o n := by unfold rV; rw [if_pos eE, Int.toNat_natCast, hv']
      have eA : rA P f (a : Int) = a * 4096 := by unfold rA; rw [if_pos eE, Int.toNat_natCast]
      rw [if_pos hR, if_pos hR, if_pos hR] at q
      rw [eE, eV, eA]
      exact q
    · have eE : rE P f (a : Int) = 5 := by unfold rE; rw [if_pos hx, Int.toNat_natCast, if_neg hR]
      have eV : rV P f (a : Int) = hv 0 0 0 0 := by unfold rV; rw [if_neg (by omega)]
      have eA : rA P f (a : Int) = 0 := by unfold rA; rw [if_neg (by omega)]
      rw [if_neg hR, if_neg hR, if_neg hR] at q
      rw [eE, eV, eA]
      exact q
  · have hx' : pin P x = false := by simpa using hx
    have eE : rE P f x = 3 := by unfold rE; rw [if_neg hx]
    have eV : rV P f x = hv 0 0 0 0 := by unfold rV; rw [if_neg (by omega)]
    have eA : rA P f x = 0 := by unfold rA; rw [if_neg (by omega)]
    have eT : rT P x = 0 := by unfold rT; rw [if_neg hx]
    rw [eE, eV, eA, eT]
    refine (find_out h x hx').mono ?_
    rintro e w' ⟨rfl, b⟩
    exact ⟨rfl, h.same b, Kept.of_below b _⟩
end
set_option maxHeartbeats 4000000 in
theorem read_go (v : Value) (x : Int) (w : World) (q er p k o n : Nat) (Q : World → Prop)
    (hf : ∀ w1, w1 = w.alloc (.cells #[.int .i64 0, .int .i64 0, .int .u64 0, .int .u64 0] 33) → Calls Try.prog 34 #[v, .int .i64 x] w1 fun e w' => e = .returned (.tuple #[.int .u64 (q : Int), hv p k o n, .int .i64 (er : Int)]) ∧ Box4 w' w.heap.size (.int .i64 0) (.int .i64 0) (.int .u64 0) (.int .u64 0) ∧
      ∀ o g u0 u1 u2 u3, g = w.heap.size → Q (((((w'.alloc o).setCell ⟨g, 0, none⟩ u0).setCell ⟨g, 1, none⟩ u1).setCell ⟨g, 2, none⟩ u2).setCell ⟨g, 3, none⟩ u3)) :
    Calls Try.prog 16 #[v, .int .i64 x] w fun e w' => e = .returned (.tuple #[hv p k o n, .int .i64 (er : Int)]) ∧ Q w' := by
  have HF := Lib.hid (hf _ rfl)
  clear hf
  go_enter Try.func16, Try.ntmps16
  go_wp2_with fail
  refine HF.out.mono ?_
  rintro e w2 ⟨rfl, x2, hq⟩
  obtain ⟨g, hg⟩ : ∃ g, g = w.heap.size := ⟨_, rfl⟩
  rw [← hg] at x2 ⊢
  have HQ := Lib.hid (And.intro hg hq)
  have X2 := Lib.hid x2
  clear hq hg HF x2
  go_upto_region 2 with fail
  have x3 := Box4.new w2 33 (.int .i64 (p : Int)) (.int .i64 (k : Int)) (.int .u64 (o : Int)) (.int .u64 (n : Int))
  have b3 := below_new w2 (.cells #[.int .i64 (p : Int), .int .i64 (k : Int), .int .u64 (o : Int), .int .u64 (n : Int)] 33)
  have hqq := HQ.out.2 (.cells #[.int .i64 (p : Int), .int .i64 (k : Int), .int .u64 (o : Int), .int .u64 (n : Int)] 33) g (.int .i64 (p : Int)) (.int .i64 (k : Int)) (.int .u64 (o : Int)) (.int .u64 (n : Int)) HQ.out.1
  have HQ2 := Lib.hid hqq
  have x4 := X2.out.below b3
  have hlt := X2.out.lt
  generalize w2.alloc (.cells #[.int .i64 (p : Int), .int .i64 (k : Int), .int .u64 (o : Int), .int .u64 (n : Int)] 33) = w3 at *
  generalize w2.heap.size = g7 at *
  have X4 := Lib.hid x4
  have a0 := x4.c0
  have a1 := x4.c1
  have a2 := x4.c2
  have a3 := x4.c3
  have fz := x4.fz
  have e0 := x3.c0
  have e1 := x3.c1
  have e2 := x3.c2
  have e3 := x3.c3
  clear x3 x4 b3 hqq HQ
  go_wp2_with fail
  have ts := X4.out.set (.int .i64 (p : Int)) (.int .i64 (k : Int)) (.int .u64 (o : Int)) (.int .u64 (n : Int))
  refine bodyPost_ret (v := .tuple #[hv p k o n, .int .i64 (er : Int)]) ?_ rfl ?_
  · simp [results, go_sem, ts.c0, ts.c1, ts.c2, ts.c3]
  · exact ⟨rfl, HQ2.out⟩
section
variable {w0 w w' : World} {s P T : Nat} {f : Nat → UInt8} {O O' : Nat → Prop}
theorem at_read (h : At w0 w s P T f O) (x : Int) (hT : T ≤ 900000000000) :
    Calls Try.prog 16 #[.pointer (some ⟨s, 0, none⟩), .int .i64 x] w fun e w' => e = .returned (.tuple #[rV P f x, .int .i64 (rE P f x : Nat)]) ∧ At w0 w' s P (T + rT P x) f O ∧ Kept w w' O := by
  obtain ⟨p, k, o, n, hv'⟩ := rV_hv P f x
  rw [hv']
  refine read_go _ x w (rA P f x) (rE P f x) p k o n (fun w' => At w0 w' s P (T + rT P x) f O ∧ Kept w w' O) ?_
  rintro w1 rfl
  have x1 := Box4.new w 33 (.int .i64 0) (.int .i64 0) (.int .u64 0) (.int .u64 0)
  have k1 := Kept.new (w := w) O (.cells #[.int .i64 0, .int .i64 0, .int .u64 0, .int .u64 0] 33)
  have hno : ¬ O w.heap.size := fun e => by have := h.sp.lt e; omega
  refine (at_find (h.alloc (.cells #[.int .i64 0, .int .i64 0, .int .u64 0, .int .u64 0] 33)) x hT).mono ?_
  rw [hv']
  rintro e w2 ⟨rfl, A2, k2⟩
  refine ⟨rfl, x1.kept k2 hno, fun o g u0 u1 u2 u3 hg => ?_⟩
  subst hg
  exact (A2.alloc o).set4 ((k1.trans k2 (fun _ _ e => e)).alloc o) hno h.bel.size (Nat.le_refl _) u0 u1 u2 u3
end
theorem read_nil (w : World) : Calls Try.prog 16 #[.pointer none, .int .i64 0] w fun e w' => e = .returned (.tuple #[hv 0 0 0 0, .int .i64 3]) ∧ Below w.heap.size w w' := by
  refine read_go _ 0 w 0 3 0 0 0 0 (fun w' => Below w.heap.size w w') ?_
  rintro w1 rfl
  have x1 := Box4.new w 33 (.int .i64 0) (.int .i64 0) (.int .u64 0) (.int .u64 0)
  have b1 := below_new w (.cells #[.int .i64 0, .int .i64 0, .int .u64 0, .int .u64 0] 33)
  refine (find_nil _).mono ?_
  rintro e w2 ⟨rfl, b2⟩
  refine ⟨rfl, x1.below b2, fun o g u0 u1 u2 u3 hg => ?_⟩
  have b3 := below_call b1 b2
  exact below_set4 (b3.alloc b3.size o) (by omega) u0 u1 u2 u3

/-! Link and Clear. -/
set_option maxHeartbeats 4000000 in
theorem link_go (v : Value) (x : Int) (m : Nat) (w : World) (q q' er p k o n : Nat) (hq : q' = q + 24) (hqb : q < 4294967296) (Q : World → Int → Prop)
    (hf : Calls Try.prog 34 #[v, .int .i64 x] w fun e w' => e = .returned (.tuple #[.int .u64 (q : Int), hv p k o n, .int .i64 (er : Int)]) ∧
      (er ≠ 0 → ∀ ob, Q (w'.alloc ob) er) ∧ (er = 0 → ∀ ob, Calls Try.prog 35 #[v, .int .u64 (q' : Int), .int .i64 8, .int .u64 (m : Int)] (w'.alloc ob) fun e w'' => ∃ r : Int, e = .returned (.int .i64 r) ∧ Q w'' r)) :
    Calls Try.prog 18 #[v, .int .i64 x, .int .u64 (m : Int)] w fun e w' => ∃ r : Int, e = .returned (.int .i64 r) ∧ Q w' r := by
  have HF := Lib.hid hf
  clear hf
  have hqq : IntKind.u64.wrap ((q : Int) + 24) = (q' : Int) := by rw [wrapU]; omega
  have HW := Lib.hid hqq
  clear hqq hq hqb
  go_enter Try.func18, Try.ntmps18
  go_wp2_with fail
  refine HF.out.mono ?_
  rintro e w2 ⟨rfl, h1, h2⟩
  have H2 := Lib.hid (And.intro h1 h2)
  clear h1 h2 HF
  by_cases he : er = 0
  · subst he
    go_upto_region 4 with fail
    have hc := H2.out.2 (by trivial) (.cells #[.int .i64 (p : Int), .int .i64 (k : Int), .int .u64 (o : Int), .int .u64 (n : Int)] 33)
    have HC := Lib.hid hc
    have hqq : True → IntKind.u64.wrap ((q : Int) + 24) = (q' : Int) := fun _ => HW.out
    clear hc
    go_wp2_with fail
    refine HC.out.mono ?_
    rintro e w3 ⟨r, rfl, hr⟩
    have HR := Lib.hid hr
    clear hr HC hqq
    go_wp2_with fail
    go_ret
    exact ⟨r, rfl, HR.out⟩
  · have hb : (((er : Nat) : Int) != 0) = true := by simpa using he
    have HE := Lib.hid he
    clear he
    go_wp2_with fail
    go_ret
    exact ⟨er, rfl, H2.out.1 HE.out _⟩
set_option maxHeartbeats 4000000 in
theorem clear_go (v : Value) (x : Int) (w : World) (q er p k o n : Nat) (Q : World → Int → Prop)
    (hf : Calls Try.prog 34 #[v, .int .i64 x] w fun e w' => e = .returned (.tuple #[.int .u64 (q : Int), hv p k o n, .int .i64 (er : Int)]) ∧
      (er ≠ 0 → ∀ ob, Q (w'.alloc ob) er) ∧ (er = 0 → ∀ ob, Calls Try.prog 37 #[v, .int .u64 (q : Int), .int .u64 32] (w'.alloc ob) fun e w'' => ∃ r : Int, e = .returned (.int .i64 r) ∧ Q w'' r)) :
    Calls Try.prog 20 #[v, .int .i64 x] w fun e w' => ∃ r : Int, e = .returned (.int .i64 r) ∧ Q w' r := by
  have HF := Lib.hid hf
  clear hf
  go_enter Try.func20, Try.ntmps20
  go_wp2_with fail
  refine HF.out.mono ?_
  rintro e w2 ⟨rfl, h1, h2⟩
  have H2 := Lib.hid (And.intro h1 h2)
  clear h1 h2 HF
  by_cases he : er = 0
  · subst he
    go_upto_region 4 with fail
    have hc := H2.out.2 (by trivial) (.cells #[.int .i64 (p : Int), .int .i64 (k : Int), .int .u64 (o : Int), .int .u64 (n : Int)] 33)
    have HC := Lib.hid hc
    clear hc
    go_wp2_with fail
    refine HC.out.mono ?_
    rintro e w3 ⟨r, rfl, hr⟩
    have HR := Lib.hid hr
    clear hr HC
    go_wp2_with fail
    go_ret
    exact ⟨r, rfl, HR.out⟩
  · have hb : (((er : Nat) : Int) != 0) = true := by simpa using he
    have HE := Lib.hid he
    clear he
    go_wp2_with fail
    go_ret
    exact ⟨er, rfl, H2.out.1 HE.out _⟩
end Go.Proofs.Ytacognejefeboaa
