/-
  Write, Link and Clear of a space that a call made, of any page.
-/
import Derived.Test.YtacognejefeboaaH8
namespace Go.Proofs.Ytacognejefeboaa
open Go.ChangeShapes Go.WideShapes Go.ChangeAt Go.RowKit
set_option linter.unusedVariables false
set_option maxRecDepth 20000

section
variable {w0 w w' : World} {s P T : Nat} {f : Nat → UInt8} {O O' : Nat → Prop}
theorem At.rewid {w1 w2 : World} (h : At w0 w s P T f O) (k1 : Kept w w1 O) {T' : Nat} {f' : Nat → UInt8} (h2 : At w0 w2 s P T' f' (Wid O w1 w2)) (k2 : Kept w1 w2 O) : At w0 w2 s P T' f' (Wid O w w2) ∧ Kept w w2 O := by
  have hz := k1.size
  exact ⟨h2.mono (fun b hb => hb.imp id (fun e => ⟨by omega, e.2⟩)) (fun b hb => hb.elim (fun e => Nat.lt_of_lt_of_le (h.sp.lt e) (Nat.le_trans k1.size k2.size)) (fun e => e.2)) h.wid, k1.trans k2 (fun _ _ e => e)⟩
theorem At.towid {w1 : World} (h : At w0 w s P T f O) (k1 : Kept w w1 O) {T' : Nat} {f' : Nat → UInt8} (h2 : At w0 w1 s P T' f' O) : At w0 w1 s P T' f' (Wid O w w1) := h.widen h2.sp k1
theorem at_next (h : At w0 w s P T f O) (a m : Nat) (ha : a < P) (q : Nat) (hq : q = a * 4096 + 24) (hm : m < 18446744073709551616) (hT : T ≤ 900000000000) :
    Calls Try.prog 35 #[.pointer (some ⟨s, 0, none⟩), .int .u64 q, .int .i64 8, .int .u64 m] w fun e w' =>
      e = .returned (.int .i64 0) ∧ At w0 w' s P (T + 1) (M.wr f q (M.enc 8 m)) (Wid O w w') ∧ Kept w w' O := by
  have hP := h.sp.top
  have hd : q % 8 = 0 := by omega
  have g := at_cput h q m ((8 : Nat) : Int) (by omega) hm (by omega)
  have hE : gE P q ((8 : Nat) : Int) = 0 := gE_of (plB_nat (by omega) hd) (by rw [Int.toNat_natCast]; exact in_of (by omega) (by omega))
  unfold pF gT at g
  have ht : M.touched q 8 = 1 := by rw [M.touched_one]; omega
  rw [hE, if_pos rfl, if_pos rfl, Int.toNat_natCast, ht] at g
  exact g

/-! What Link and Clear answer: Read's error. -/
def kT (P : Nat) (f : Nat → UInt8) (x : Int) : Nat := rT P x + (if rE P f x = 0 then 1 else 0)
def kF (P : Nat) (f : Nat → UInt8) (x : Int) (m : Nat) : Nat → UInt8 := if rE P f x = 0 then M.wr f (x.toNat * 4096 + 24) (M.enc 8 m) else f
def cF (P : Nat) (f : Nat → UInt8) (x : Int) : Nat → UInt8 := if rE P f x = 0 then M.zr f (x.toNat * 4096) 32 else f
theorem rA_lt (P : Nat) (f : Nat → UInt8) (x : Int) (hP : P ≤ 1048576) : rA P f x < 4294967296 := by
  unfold rA
  by_cases h : rE P f x = 0
  · obtain ⟨a, rfl, ha, _⟩ := rE_ok h
    rw [if_pos h, Int.toNat_natCast]
    omega
  · rw [if_neg h]; omega
theorem rT_le (P : Nat) (x : Int) : rT P x ≤ 1 := by unfold rT; split <;> omega
theorem kT_le (P : Nat) (f : Nat → UInt8) (x : Int) : kT P f x ≤ 2 := by unfold kT; have := rT_le P x; split <;> omega
theorem at_link (h : At w0 w s P T f O) (x : Int) (m : Nat) (hm : m < 18446744073709551616) (hT : T ≤ 800000000000) :
    Calls Try.prog 18 #[.pointer (some ⟨s, 0, none⟩), .int .i64 x, .int .u64 (m : Int)] w fun e w' => e = .returned (.int .i64 (rE P f x : Nat)) ∧ At w0 w' s P (T + kT P f x) (kF P f x m) (Wid O w w') ∧ Kept w w' O := by
  have hP := h.sp.top
  have hrt := rT_le P x
  obtain ⟨p, k, o, n, hv'⟩ := rV_hv P f x
  refine (link_go _ x m w (rA P f x) (rA P f x + 24) (rE P f x) p k o n rfl (rA_lt P f x hP.2) (fun w' r => r = (rE P f x : Nat) ∧ At w0 w' s P (T + kT P f x) (kF P f x m) (Wid O w w') ∧ Kept w w' O) ?_).mono ?_
  · refine (at_find h x (by omega)).mono ?_
    rw [hv']
    rintro e w1 ⟨rfl, A1, k1⟩
    refine ⟨rfl, fun he ob => ?_, fun he ob => ?_⟩
    · have k2 := k1.alloc ob
      unfold kT kF
      rw [if_neg he, if_neg he, Nat.add_zero]
      exact ⟨rfl, h.towid k2 (A1.alloc ob), k2⟩
    · obtain ⟨a, rfl, ha, hb⟩ := rE_ok he
      have k2 := k1.alloc ob
      have eA : rA P f (a : Int) = a * 4096 := by unfold rA; rw [if_pos he, Int.toNat_natCast]
      refine (at_next (A1.alloc ob) a m ha (rA P f (a : Int) + 24) (by omega) hm (by omega)).mono ?_
      rintro e w2 ⟨rfl, A2, k3⟩
      refine ⟨0, rfl, by rw [he]; rfl, ?_⟩
      unfold kT kF
      rw [if_pos he, if_pos he, Int.toNat_natCast, ← eA, ← Nat.add_assoc]
      exact h.rewid k2 A2 k3
  · rintro e w' ⟨r, rfl, rfl, q⟩
    exact ⟨rfl, q⟩
theorem at_clear (h : At w0 w s P T f O) (x : Int) (hT : T ≤ 800000000000) :
    Calls Try.prog 20 #[.pointer (some ⟨s, 0, none⟩), .int .i64 x] w fun e w' => e = .returned (.int .i64 (rE P f x : Nat)) ∧ At w0 w' s P (T + kT P f x) (cF P f x) (Wid O w w') ∧ Kept w w' O := by
  have hP := h.sp.top
  have hrt := rT_le P x
  obtain ⟨p, k, o, n, hv'⟩ := rV_hv P f x
  refine (clear_go _ x w (rA P f x) (rE P f x) p k o n (fun w' r => r = (rE P f x : Nat) ∧ At w0 w' s P (T + kT P f x) (cF P f x) (Wid O w w') ∧ Kept w w' O) ?_).mono ?_
  · refine (at_find h x (by omega)).mono ?_
    rw [hv']
    rintro e w1 ⟨rfl, A1, k1⟩
    refine ⟨rfl, fun he ob => ?_, fun he ob => ?_⟩
    · have k2 := k1.alloc ob
      unfold kT cF
      rw [if_neg he, if_neg he, Nat.add_zero]
      exact ⟨rfl, h.towid k2 (A1.alloc ob), k2⟩
    · obtain ⟨a, rfl, ha, hb⟩ := rE_ok he
      have k2 := k1.alloc ob
      have eA : rA P f (a : Int) = a * 4096 := by unfold rA; rw [if_pos he, Int.toNat_natCast]
      refine (at_zero (A1.alloc ob) (rA P f (a : Int)) 32 (by omega) (by omega)).mono ?_
      rintro e w2 ⟨rfl, A2, k3⟩
      have k4 := k2.trans k3 (fun _ _ e => e)
      refine ⟨0, rfl, by rw [he]; rfl, ?_⟩
      unfold kT cF
      have ht := touch_head a
      rw [← eA] at ht
      rw [ht] at A2
      rw [if_pos he, if_pos he, Int.toNat_natCast, ← eA, ← Nat.add_assoc]
      exact ⟨h.towid k4 A2, k4⟩
  · rintro e w' ⟨r, rfl, rfl, q⟩
    exact ⟨rfl, q⟩
end
theorem link_nil (m : Nat) (w : World) : Calls Try.prog 18 #[.pointer none, .int .i64 0, .int .u64 (m : Int)] w fun e w' => e = .returned (.int .i64 3) ∧ Below w.heap.size w w' := by
  refine (link_go _ 0 m w 0 24 3 0 0 0 0 rfl (by omega) (fun w' r => r = 3 ∧ Below w.heap.size w w') ?_).mono ?_
  · refine (find_nil w).mono ?_
    rintro e w1 ⟨rfl, b1⟩
    exact ⟨rfl, fun _ ob => ⟨rfl, b1.alloc b1.size ob⟩, fun h => absurd h (by decide)⟩
  · rintro e w' ⟨r, rfl, rfl, q⟩
    exact ⟨rfl, q⟩
theorem clear_nil (w : World) : Calls Try.prog 20 #[.pointer none, .int .i64 0] w fun e w' => e = .returned (.int .i64 3) ∧ Below w.heap.size w w' := by
  refine (clear_go _ 0 w 0 3 0 0 0 0 (fun w' r => r = 3 ∧ Below w.heap.size w w') ?_).mono ?_
  · refine (find_nil w).mono ?_
    rintro e w1 ⟨rfl, b1⟩
    exact ⟨rfl, fun _ ob => ⟨rfl, b1.alloc b1.size ob⟩, fun h => absurd h (by decide)⟩
  · rintro e w' ⟨r, rfl, rfl, q⟩
    exact ⟨rfl, q⟩

/-! Write. -/
theorem write_arg (v : Value) (a p k : Int) (o n : Int) (hr : M.right p k = false) (w : World) :
    Calls Try.prog 14 #[v, .int .i64 a, hv p k o n] w fun e w' => e = .returned (.int .i64 1) ∧ Below w.heap.size w w' := by
  have b1 := below_new w (.cells #[.int .i64 p, .int .i64 k, .int .u64 o, .int .u64 n] 33)
  have HR := Lib.hid hr
  clear hr
  go_enter Try.func14, Try.ntmps14
  go_wp2_with fail
  refine (hright_any p k o n _).mono ?_
  rintro e w2 ⟨rfl, b2⟩
  rw [HR.out]
  have HB := Lib.hid (below_call b1 b2)
  clear b1 b2
  go_wp2_with fail
  go_ret
  exact ⟨rfl, HB.out⟩
set_option maxHeartbeats 4000000 in
theorem write_go (v : Value) (x p k : Int) (o n : Nat) (q er : Nat) (B : Bool) (hr : M.right p k = true) (ho : o < 18446744073709551616) (hn : n < 18446744073709551616) (w : World) (Q : World → Int → Prop)
    (hpl : ∀ w1, Below w.heap.size w w1 → Calls Try.prog 30 #[v, .int .i64 x] w1 fun e w' => e = .returned (.tuple #[.int .u64 (q : Int), .bool B]) ∧ w1 = w')
    (h3 : B = false → ∀ w1, Below w.heap.size w w1 → Q w1 3)
    (hst : B = true → ∀ w1 g, Below w.heap.size w w1 → Own w1 g (M.hd p.toNat k.toNat o n) → w.heap.size ≤ g → Calls Try.prog 22 #[v, .int .u64 (q : Int), .slice (some ⟨g, 0, none⟩) 32 32] w1 fun e w' => ∃ r : Int, e = .returned (.int .i64 r) ∧ Q w' r) :
    Calls Try.prog 14 #[v, .int .i64 x, hv p k o n] w fun e w' => ∃ r : Int, e = .returned (.int .i64 r) ∧ Q w' r := by
  have x1 := Box4.new w 33 (.int .i64 p) (.int .i64 k) (.int .u64 (o : Int)) (.int .u64 (n : Int))
  have b1 := below_new w (.cells #[.int .i64 p, .int .i64 k, .int .u64 (o : Int), .int .u64 (n : Int)] 33)
  have HH := Lib.hid (And.intro hpl (And.intro h3 (And.intro hst (And.intro hr (And.intro ho hn)))))
  clear hpl h3 hst hr ho hn
  go_enter Try.func14, Try.ntmps14
  go_wp2_with fail
  refine (hright_any p k o n _).mono ?_
  rintro e w2 ⟨rfl, b2⟩
  rw [HH.out.2.2.2.1]
  have x2 := x1.below b2
  have b3 := below_call b1 b2
  obtain ⟨g, hg⟩ : ∃ g, g = w.heap.size := ⟨_, rfl⟩
  rw [← hg] at x2 ⊢
  have H2 := Lib.hid (And.intro x2 (And.intro b3 hg))
  have a0 := x2.c0
  have a1 := x2.c1
  have a2 := x2.c2
  have a3 := x2.c3
  clear x1 x2 b1 b2 b3 hg
  go_wp2_with fail
  refine (HH.out.1 w2 H2.out.2.1).mono ?_
  rintro e w' ⟨rfl, rfl⟩
  cases B with
  | false =>
    go_wp2_with fail
    go_ret
    exact ⟨3, rfl, HH.out.2.1 (by trivial) _ H2.out.2.1⟩
  | true =>
    go_wp2_with fail
    refine (hbytes_int p k p.toNat k.toNat o n (by have := (M.right_iff p k).1 HH.out.2.2.2.1; omega) (by have := (M.right_iff p k).1 HH.out.2.2.2.1; omega) (by have := (M.right_iff p k).1 HH.out.2.2.2.1; omega) (by have := (M.right_iff p k).1 HH.out.2.2.2.1; omega) HH.out.2.2.2.2.1 HH.out.2.2.2.2.2 w2).mono ?_
    rintro e w3 ⟨gb, rfl, ob, b3, hgb, _⟩
    have hs := HH.out.2.2.1 (by trivial) w3 gb (below_call H2.out.2.1 b3) ob (by have := H2.out.2.1.size; omega)
    have HS := Lib.hid hs
    clear hs ob b3 hgb a0 a1 a2 a3
    go_wp2_with fail
    refine HS.out.mono ?_
    rintro e w4 ⟨r, rfl, hr⟩
    have HR := Lib.hid hr
    clear hr HS
    go_wp2_with fail
    go_ret
    exact ⟨r, rfl, HR.out⟩
def wE (P : Nat) (x p k : Int) : Nat := if M.right p k = true then (if pin P x = true then 0 else 3) else 1
def wT (P : Nat) (x p k : Int) : Nat := if wE P x p k = 0 then 1 else 0
def wF (P : Nat) (f : Nat → UInt8) (x p k : Int) (o n : Nat) : Nat → UInt8 := if wE P x p k = 0 then M.wr f (x.toNat * 4096) (M.hd p.toNat k.toNat o n) else f
section
variable {w0 w w' : World} {s P T : Nat} {f : Nat → UInt8} {O O' : Nat → Prop}
theorem at_write (h : At w0 w s P T f O) (x p k : Int) (o n : Nat) (ho : o < 18446744073709551616) (hn : n < 18446744073709551616) (hT : T ≤ 900000000000) :
    Calls Try.prog 14 #[.pointer (some ⟨s, 0, none⟩), .int .i64 x, hv p k o n] w fun e w' => e = .returned (.int .i64 (wE P x p k : Nat)) ∧ At w0 w' s P (T + wT P x p k) (wF P f x p k o n) (Wid O w w') ∧ Kept w w' O := by
  have hP := h.sp.top
  by_cases hr : M.right p k = true
  · by_cases hx : pin P x = true
    · obtain ⟨a, rfl, ha⟩ := pin_yes hx
      have eE : wE P (a : Int) p k = 0 := by unfold wE; rw [if_pos hr, if_pos hx]
      unfold wT wF
      rw [eE, if_pos rfl, if_pos rfl, Int.toNat_natCast]
      refine (write_go _ a p k o n (a * 4096) 0 true hr ho hn w (fun w' r => r = 0 ∧ At w0 w' s P (T + 1) (M.wr f (a * 4096) (M.hd p.toNat k.toNat o n)) (Wid O w w') ∧ Kept w w' O) (fun w1 b1 => place_yes (h.same b1).sp a ha _ rfl) (fun e => by cases e) (fun _ w1 g b1 ob hg => ?_)).mono ?_
      · have ht := touch_head a
        refine (at_store (h.same b1) (a * 4096) 32 32 (some ⟨g, 0, none⟩) (M.hd p.toNat k.toNat o n) (M.hd_length _ _ _ _).symm ob.lies (Nat.le_refl _) (fun _ ad e hO => ?_) (by omega) (by omega) (by omega)).mono ?_
        · injection e with e
          subst e
          have : g < w.heap.size := h.sp.lt hO
          omega
        · rintro e w2 ⟨rfl, A2, k2⟩
          rw [ht] at A2
          exact ⟨0, rfl, rfl, h.rewid (Kept.of_below b1 O) A2 k2⟩
      · rintro e w' ⟨r, rfl, rfl, q⟩
        exact ⟨rfl, q⟩
    · have hx' : pin P x = false := by simpa using hx
      have eE : wE P x p k = 3 := by unfold wE; rw [if_pos hr, if_neg hx]
      unfold wT wF
      rw [eE, if_neg (by omega), if_neg (by omega)]
      refine (write_go _ x p k o n 0 3 false hr ho hn w (fun w' r => r = 3 ∧ Below w.heap.size w w') (fun w1 b1 => place_no (h.same b1).sp x hx') (fun _ w1 b1 => ⟨rfl, b1⟩) (fun e => by cases e)).mono ?_
      rintro e w' ⟨r, rfl, rfl, b⟩
      exact ⟨rfl, h.widen_same b⟩
  · have hr' : M.right p k = false := by simpa using hr
    have eE : wE P x p k = 1 := by unfold wE; rw [if_neg hr]
    unfold wT wF
    rw [eE, if_neg (by omega), if_neg (by omega)]
    refine (write_arg _ x p k o n hr' w).mono ?_
    rintro e w' ⟨rfl, b⟩
    exact ⟨rfl, h.widen_same b⟩
end
theorem write_nil (p k : Int) (hr : M.right p k = true) (w : World) :
    Calls Try.prog 14 #[.pointer none, .int .i64 0, hv p k 0 0] w fun e w' => e = .returned (.int .i64 3) ∧ Below w.heap.size w w' := by
  refine (write_go (.pointer none) 0 p k 0 0 0 3 false hr (by omega) (by omega) w (fun w' r => r = 3 ∧ Below w.heap.size w w') (fun w1 b1 => place_nil w1) (fun _ w1 b1 => ⟨rfl, b1⟩) (fun e => by cases e)).mono ?_
  rintro e w' ⟨r, rfl, rfl, b⟩
  exact ⟨rfl, b⟩
end Go.Proofs.Ytacognejefeboaa
