/-
  What 'play' leaves: a space, whatever its bytes.
-/
import Derived.Test.YtdchnncoddjngaaAct
namespace Go.Proofs.Ytdchnncoddjngaa
open Go.ChangeShapes Go.WideShapes Go.ChangeAt Go.RowKit
set_option linter.unusedVariables false

/-- The blocks that a space may write behind some calls: those of old, and new ones. -/
abbrev Wid (O : Nat → Prop) (w w' : World) : Nat → Prop := fun b => O b ∨ (w.heap.size ≤ b ∧ b < w'.heap.size)
/-- Something was done to a space. -/
def Did (w w' : World) (s P T K : Nat) (O : Nat → Prop) : Prop := ∃ f' T', T' ≤ T + K * 4194304 ∧ Sp w' s P T' f' (Wid O w w') ∧ Kept w w' O
theorem Did.of_same {w w' : World} {s P T : Nat} {f : Nat → UInt8} {O : Nat → Prop} (h : Sp w s P T f O) (hb : Below w.heap.size w w') : Did w w' s P T 1 O :=
  ⟨f, T, by omega, (h.below hb).mono (fun _ h => Or.inl h) (fun b hb' => hb'.elim (fun h' => Nat.lt_of_lt_of_le (h.lt h') hb.size) (fun h' => h'.2)), Kept.of_below hb _⟩
theorem Did.start {w : World} {s P T : Nat} {f : Nat → UInt8} {O : Nat → Prop} (h : Sp w s P T f O) : Did w w s P T 0 O :=
  ⟨f, T, by omega, h.mono (fun _ h => Or.inl h) (fun b hb' => hb'.elim (fun h' => h.lt h') (fun h' => h'.2)), Kept.refl _ _⟩
theorem Did.step {w w1 w2 : World} {s P T T1 K : Nat} {f : Nat → UInt8} {O : Nat → Prop} (hT : T1 ≤ T + K * 4194304) (k1 : Kept w w1 O) (d : Did w1 w2 s P T1 1 (Wid O w w1)) : Did w w2 s P T (K + 1) O := by
  obtain ⟨f', T', h1, h2, h3⟩ := d
  refine ⟨f', T', by omega, h2.mono (fun b hb => ?_) (fun b hb => ?_), k1.trans h3 (fun i hi h => h.elim id (fun h => by omega))⟩
  · rcases hb with (h | h) | h
    · exact Or.inl h
    · exact Or.inr ⟨h.1, Nat.lt_of_lt_of_le h.2 h3.size⟩
    · exact Or.inr ⟨Nat.le_trans k1.size h.1, h.2⟩
  · rcases hb with h | h
    · have hs := h3.size
      obtain ⟨m, G, g1, g2, g3, g4⟩ := h2
      exact g4 b (Or.inl (Or.inl h))
    · exact h.2

theorem touch_le {a n P : Nat} (h : M.inB a n (P * 4096) = true) (hP : P ≤ 1048576) : M.touched a n ≤ 1048578 := by
  have h1 := inB_in h
  have h2 := M.touched_le a n
  omega

section
variable {w : World} {s P T : Nat} {f : Nat → UInt8} {O : Nat → Prop}
theorem load_did (h : Sp w s P T f O) (a n : Nat) (ha : a < 18446744073709551616) (hn : n < 18446744073709551616) (hT : T + 4194304 < 9223372036854775808) :
    Calls Try.prog 15 #[.pointer (some ⟨s, 0, none⟩), .int .u64 a, .int .u64 n] w fun e w' => (∃ v, e = .returned v) ∧ Did w w' s P T 1 O := by
  have hP := h.top
  by_cases hin : M.inB a n (P * 4096) = true
  · have ht := touch_le hin hP.2
    by_cases h1 : n ≤ 1048576
    · refine (load_ok h a n ha hin h1 (by omega)).mono ?_
      rintro e w' ⟨g, rfl, _, _, _, S, k⟩
      exact ⟨⟨_, rfl⟩, f, _, by omega, S.mono (fun _ h => Or.inl h) (fun b hb => hb.elim (fun h => S.lt h) (fun h => h.2)), k⟩
    · refine (load_arg h a n ha hn hin (by omega)).mono ?_
      rintro e w' ⟨rfl, hb⟩
      exact ⟨⟨_, rfl⟩, Did.of_same h hb⟩
  · refine (load_range h a n ha hn (by simpa using hin)).mono ?_
    rintro e w' ⟨rfl, hb⟩
    exact ⟨⟨_, rfl⟩, Did.of_same h hb⟩
theorem store_did (h : Sp w s P T f O) (a n c : Nat) (A : Option Addr) (xs : List UInt8) (hx : n = xs.length) (hl : Lies w A (u8s xs)) (hc : n ≤ c) (hap : 0 < xs.length → ∀ ad, A = some ad → ¬ O ad.block) (hn : n ≤ 9223372036854775807)
    (ha : a < 18446744073709551616) (hT : T + 4194304 < 9223372036854775808) :
    Calls Try.prog 17 #[.pointer (some ⟨s, 0, none⟩), .int .u64 a, .slice A n c] w fun e w' => (∃ v, e = .returned v) ∧ Did w w' s P T 1 O := by
  have hP := h.top
  by_cases hin : M.inB a n (P * 4096) = true
  · have ht := touch_le hin hP.2
    by_cases h1 : n ≤ 1048576
    · refine (store_ok h a n c A xs hx hl hc hap ha hin h1 (by omega)).mono ?_
      rintro e w' ⟨rfl, S, k⟩
      exact ⟨⟨_, rfl⟩, _, _, by omega, S, k⟩
    · refine (store_arg h a n c A hn ha hin (by omega)).mono ?_
      rintro e w' ⟨rfl, hb⟩
      exact ⟨⟨_, rfl⟩, Did.of_same h hb⟩
  · refine (store_range h a n c A hn ha (by simpa using hin)).mono ?_
    rintro e w' ⟨rfl, hb⟩
    exact ⟨⟨_, rfl⟩, Did.of_same h hb⟩
theorem zero_did (h : Sp w s P T f O) (a n : Nat) (ha : a < 18446744073709551616) (hn : n < 18446744073709551616) (hT : T + 4194304 < 9223372036854775808) :
    Calls Try.prog 19 #[.pointer (some ⟨s, 0, none⟩), .int .u64 a, .int .u64 n] w fun e w' => (∃ v, e = .returned v) ∧ Did w w' s P T 1 O := by
  have hP := h.top
  by_cases hin : M.inB a n (P * 4096) = true
  · have ht := touch_le hin hP.2
    refine (zero_ok h a n ha hn hin (by omega)).mono ?_
    rintro e w' ⟨rfl, S, k⟩
    exact ⟨⟨_, rfl⟩, _, _, by omega, S.mono (fun _ h => Or.inl h) (fun b hb => hb.elim (fun h => S.lt h) (fun h => h.2)), k⟩
  · refine (zero_range h a n ha hn (by simpa using hin)).mono ?_
    rintro e w' ⟨rfl, hb⟩
    exact ⟨⟨_, rfl⟩, Did.of_same h hb⟩
theorem copy_did (h : Sp w s P T f O) (t a n : Nat) (ht : t < 18446744073709551616) (ha : a < 18446744073709551616) (hn : n < 18446744073709551616) (hT : T + 4194304 < 9223372036854775808) :
    Calls Try.prog 21 #[.pointer (some ⟨s, 0, none⟩), .int .u64 t, .int .u64 a, .int .u64 n] w fun e w' => (∃ v, e = .returned v) ∧ Did w w' s P T 1 O := by
  have hP := h.top
  by_cases hin : (M.inB t n (P * 4096) && M.inB a n (P * 4096)) = true
  · simp only [Bool.and_eq_true] at hin
    have h1 := touch_le hin.1 hP.2
    have h2 := touch_le hin.2 hP.2
    by_cases h3 : n ≤ 1048576
    · refine (copy_ok h t a n ht ha hin.1 hin.2 h3 (by omega)).mono ?_
      rintro e w' ⟨rfl, S, k⟩
      exact ⟨⟨_, rfl⟩, _, _, by omega, S, k⟩
    · refine (copy_arg h t a n ht ha hn hin.1 hin.2 (by omega)).mono ?_
      rintro e w' ⟨rfl, hb⟩
      exact ⟨⟨_, rfl⟩, Did.of_same h hb⟩
  · refine (copy_range h t a n ht ha hn (by simpa using hin)).mono ?_
    rintro e w' ⟨rfl, hb⟩
    exact ⟨⟨_, rfl⟩, Did.of_same h hb⟩
end

set_option maxHeartbeats 1000000 in
theorem play_any (w0 w : World) (A : Option Addr) (l : List ActD) (z c : Nat) (hz : z = l.length) (hA : Acts w0 A l) (hl : z ≤ 30) {s P T : Nat} {f : Nat → UInt8} {O : Nat → Prop} (h : Sp w s P T f O)
    (hb : Below w0.heap.size w0 w) (hO : ∀ b, O b → w0.heap.size ≤ b) (hT : T ≤ 1000000000000) :
    Calls Try.prog 28 #[.pointer (some ⟨s, 0, none⟩), .slice A z c] w fun e w' => e = .returned (.tuple #[]) ∧ Did w w' s P T z O := by
  have HZ := Lib.hid hz
  have HA := Lib.hid hA
  have HH := Lib.hid (show Sp w s P T f O ∧ Below w0.heap.size w0 w ∧ ∀ b, O b → w0.heap.size ≤ b from ⟨h, hb, hO⟩)
  clear hz hA h hb hO
  go_enter Try.func28, Try.ntmps28
  go_wp2_with fail
  go_loopw [4] (fun i wr => ∃ k : Nat, k ≤ z ∧ i = .int .i64 k ∧ Did w wr s P T k O) (fun i _ => z - (intOf i).toNat)
  case atStart => exact ⟨0, by omega, rfl, Did.start HH.out.1⟩
  case round =>
    obtain ⟨k, hk, rfl, hd⟩ := hrel
    by_cases hlt : k < z
    · have hkl : k < l.length := by have := HZ.out; omega
      obtain ⟨bl, o, rfl, hc⟩ := HA.out (by omega)
      obtain ⟨f1, T1, t1, S1, K1⟩ := hd
      have hb1 : Below w0.heap.size w0 wr := HH.out.2.1.trans (K1.below HH.out.2.1.size HH.out.2.2)
      have hx := (hc k hkl).below hb1
      generalize hxe : l[k] = x at hx
      have c0 := hx.c0
      have c1 := hx.c1
      have c2 := hx.c2
      have c3 := hx.c3
      have c4 := hx.c4
      have n0 := hx.d
      have hap : 0 < x.b.length → ∀ ad, x.A = some ad → ¬ Wid O w wr ad.block := fun h0 ad e hO => by
        obtain ⟨ad', e', hc'⟩ := (hc k hkl).lies (by rw [hxe, u8s_length]; exact h0)
        have hh := lt_of_cell (hc' 0 (by rw [hxe, u8s_length]; exact h0))
        rw [block_of_add] at hh
        rw [hxe, e] at e'
        injection e' with e'
        subst e'
        have hs := HH.out.2.1.size
        rcases hO with h | h
        · have := HH.out.2.2 _ h; omega
        · omega
      have HX := Lib.hid (show IsAct wr bl (o + k * 5) x ∧ (0 < x.b.length → ∀ ad, x.A = some ad → ¬ Wid O w wr ad.block) from ⟨hx, hap⟩)
      have HS := Lib.hid (show T1 ≤ T + k * 4194304 ∧ Sp wr s P T1 f1 (Wid O w wr) ∧ Kept w wr O from ⟨t1, S1, K1⟩)
      clear hx hap hxe hc hk HA hb1 t1 S1 K1
      generalize x.d = xd at *
      by_cases d0 : xd = 0
      · subst d0
        go_wp2_with fail
        refine still_tail 11 (by kernel_rfl) (by kernel_rfl) (fun w3 hw3 => ?_)
        have e1 : w3.cell? ⟨bl, o + k * 5 + 1, none⟩ = some (.int .u64 (x.at' : Int)) := by rw [hw3]; exact c1
        have e3 : w3.cell? ⟨bl, o + k * 5 + 3, none⟩ = some (.int .u64 (x.n : Int)) := by rw [hw3]; exact c3
        have S3 := Lib.hid (show Sp w3 s P T1 f1 (Wid O w w3) ∧ Kept w w3 O ∧ (Lies w3 x.A (u8s x.b)) ∧ (0 < x.b.length → ∀ ad, x.A = some ad → ¬ Wid O w w3 ad.block) by rw [hw3]; exact ⟨HS.out.2.1.drew, HS.out.2.2.drew, HX.out.1.lies, HX.out.2⟩)
        clear hw3 c0 c1 c2 c3 c4
        simp only [List.take_succ_cons, List.take_zero, List.drop_succ_cons, List.drop_zero]
        repeat still_step
        refine wpStill_nil ?_
        go_wp2_with fail
        refine (load_did S3.out.1 x.at' x.n HX.out.1.at' HX.out.1.n (by have := HS.out.1; omega)).mono ?_
        rintro e w4 ⟨⟨v, rfl⟩, hd⟩
        have HD := Lib.hid (Did.step (f := f) HS.out.1 S3.out.2.1 hd)
        clear hd
        go_wp2_with fail
        go_roundw
        case rel => exact ⟨k + 1, by omega, by go_num, HD.out⟩
        case measure => simp [intOf]; omega
      · have i0 : ¬ ((xd : Int) = 0) := by omega
        have i0' : ((xd : Int) == 0) = false := by simp; omega
        by_cases d1 : xd = 1
        · subst d1
          go_wp2_with fail
          refine still_tail 11 (by kernel_rfl) (by kernel_rfl) (fun w3 hw3 => ?_)
          have e1 : w3.cell? ⟨bl, o + k * 5 + 1, none⟩ = some (.int .u64 (x.at' : Int)) := by rw [hw3]; exact c1
          have e4 : w3.cell? ⟨bl, o + k * 5 + 4, none⟩ = some (.slice x.A x.len x.cap) := by rw [hw3]; exact c4
          have S3 := Lib.hid (show Sp w3 s P T1 f1 (Wid O w w3) ∧ Kept w w3 O ∧ (Lies w3 x.A (u8s x.b)) ∧ (0 < x.b.length → ∀ ad, x.A = some ad → ¬ Wid O w w3 ad.block) by rw [hw3]; exact ⟨HS.out.2.1.drew, HS.out.2.2.drew, HX.out.1.lies, HX.out.2⟩)
          clear hw3 c0 c1 c2 c3 c4
          simp only [List.take_succ_cons, List.take_zero, List.drop_succ_cons, List.drop_zero]
          repeat still_step
          refine wpStill_nil ?_
          go_wp2_with fail
          refine (store_did S3.out.1 x.at' x.len x.cap x.A x.b HX.out.1.len S3.out.2.2.1 HX.out.1.cap S3.out.2.2.2 HX.out.1.top HX.out.1.at' (by have := HS.out.1; omega)).mono ?_
          rintro e w4 ⟨⟨v, rfl⟩, hd⟩
          have HD := Lib.hid (Did.step (f := f) HS.out.1 S3.out.2.1 hd)
          clear hd
          go_wp2_with fail
          go_roundw
          case rel => exact ⟨k + 1, by omega, by go_num, HD.out⟩
          case measure => simp [intOf]; omega
        · have i1 : ¬ ((xd : Int) = 1) := by omega
          have i1' : ((xd : Int) == 1) = false := by simp; omega
          by_cases d2 : xd = 2
          · subst d2
            go_wp2_with fail
            refine still_tail 11 (by kernel_rfl) (by kernel_rfl) (fun w3 hw3 => ?_)
            have e1 : w3.cell? ⟨bl, o + k * 5 + 1, none⟩ = some (.int .u64 (x.at' : Int)) := by rw [hw3]; exact c1
            have e3 : w3.cell? ⟨bl, o + k * 5 + 3, none⟩ = some (.int .u64 (x.n : Int)) := by rw [hw3]; exact c3
            have S3 := Lib.hid (show Sp w3 s P T1 f1 (Wid O w w3) ∧ Kept w w3 O ∧ (Lies w3 x.A (u8s x.b)) ∧ (0 < x.b.length → ∀ ad, x.A = some ad → ¬ Wid O w w3 ad.block) by rw [hw3]; exact ⟨HS.out.2.1.drew, HS.out.2.2.drew, HX.out.1.lies, HX.out.2⟩)
            clear hw3 c0 c1 c2 c3 c4
            simp only [List.take_succ_cons, List.take_zero, List.drop_succ_cons, List.drop_zero]
            repeat still_step
            refine wpStill_nil ?_
            go_wp2_with fail
            refine (zero_did S3.out.1 x.at' x.n HX.out.1.at' HX.out.1.n (by have := HS.out.1; omega)).mono ?_
            rintro e w4 ⟨⟨v, rfl⟩, hd⟩
            have HD := Lib.hid (Did.step (f := f) HS.out.1 S3.out.2.1 hd)
            clear hd
            go_wp2_with fail
            go_roundw
            case rel => exact ⟨k + 1, by omega, by go_num, HD.out⟩
            case measure => simp [intOf]; omega
          · have i2 : ¬ ((xd : Int) = 2) := by omega
            have i2' : ((xd : Int) == 2) = false := by simp; omega
            go_wp2_with fail
            refine still_tail 16 (by kernel_rfl) (by kernel_rfl) (fun w3 hw3 => ?_)
            have e1 : w3.cell? ⟨bl, o + k * 5 + 1, none⟩ = some (.int .u64 (x.at' : Int)) := by rw [hw3]; exact c1
            have e2 : w3.cell? ⟨bl, o + k * 5 + 2, none⟩ = some (.int .u64 (x.src : Int)) := by rw [hw3]; exact c2
            have e3 : w3.cell? ⟨bl, o + k * 5 + 3, none⟩ = some (.int .u64 (x.n : Int)) := by rw [hw3]; exact c3
            have S3 := Lib.hid (show Sp w3 s P T1 f1 (Wid O w w3) ∧ Kept w w3 O ∧ (Lies w3 x.A (u8s x.b)) ∧ (0 < x.b.length → ∀ ad, x.A = some ad → ¬ Wid O w w3 ad.block) by rw [hw3]; exact ⟨HS.out.2.1.drew, HS.out.2.2.drew, HX.out.1.lies, HX.out.2⟩)
            clear hw3 c0 c1 c2 c3 c4
            simp only [List.take_succ_cons, List.take_zero, List.drop_succ_cons, List.drop_zero]
            repeat still_step
            refine wpStill_nil ?_
            go_wp2_with fail
            refine (copy_did S3.out.1 x.at' x.src x.n HX.out.1.at' HX.out.1.src HX.out.1.n (by have := HS.out.1; omega)).mono ?_
            rintro e w4 ⟨⟨v, rfl⟩, hd⟩
            have HD := Lib.hid (Did.step (f := f) HS.out.1 S3.out.2.1 hd)
            clear hd
            go_wp2_with fail
            go_roundw
            case rel => exact ⟨k + 1, by omega, by go_num, HD.out⟩
            case measure => simp [intOf]; omega
    · go_wp2_with fail
      go_end0
      obtain rfl : k = z := by omega
      exact ⟨rfl, hd⟩
end Go.Proofs.Ytdchnncoddjngaa
