/-
  Calls of header within a space; the document's example.
-/
import Derived.Test.YtacognejefeboaaW8
namespace Go.Proofs.Ytacognejefeboaa
open Go.ChangeShapes Go.WideShapes Go.ChangeAt Go.RowKit
set_option linter.unusedVariables false
set_option maxRecDepth 20000

section
variable {w0 w w' : World} {s P T : Nat} {f : Nat → UInt8} {O O' : Nat → Prop}
/-- A header that stands at a page. -/
structure Stands (f : Nat → UInt8) (a p k o n : Nat) : Prop where
  b : M.rd f (a * 4096) 32 = M.hd p k o n
  r : M.right (p : Nat) (k : Nat) = true
  o : o < 18446744073709551616
  n : n < 18446744073709551616
theorem Stands.isH {a p k o n : Nat} (h : Stands f a p k o n) : M.isH (M.rd f (a * 4096) 32) = true := by rw [h.b]; exact M.isH_hd _ _ _ _ h.r
theorem Stands.p {a p k o n : Nat} (h : Stands f a p k o n) : 1 ≤ p ∧ p ≤ 1048576 ∧ k ≤ 255 := by have := (M.right_iff _ _).1 h.r; omega
theorem Stands.v {a p k o n : Nat} (h : Stands f a p k o n) : hV (M.rd f (a * 4096) 32) = hv p k o n := by
  have := h.p
  unfold hV
  rw [if_pos h.isH, h.b, M.hP_hd _ _ _ _ (by omega), M.hK_hd _ _ _ _ (by omega), M.hO_hd _ _ _ _ h.o, M.hN_hd _ _ _ _ h.n]
theorem Stands.written (f : Nat → UInt8) (a p k o n : Nat) (hr : M.right (p : Nat) (k : Nat) = true) (ho : o < 18446744073709551616) (hn : n < 18446744073709551616) : Stands (M.wr f (a * 4096) (M.hd p k o n)) a p k o n :=
  ⟨M.rd_hd _ _ _ _ _ _, hr, ho, hn⟩
theorem Stands.linked {a p k o n : Nat} (h : Stands f a p k o n) (m : Nat) (hm : m < 18446744073709551616) : Stands (M.wr f (a * 4096 + 24) (M.enc 8 m)) a p k o m :=
  ⟨M.rd_link _ _ _ _ _ _ _ h.b, h.r, h.o, hm⟩
theorem Stands.apart {a p k o n : Nat} (h : Stands f a p k o n) (b : Nat) (l : List UInt8) (hd : a * 4096 + 32 ≤ b ∨ b + l.length ≤ a * 4096) : Stands (M.wr f b l) a p k o n :=
  ⟨by rw [M.rd_wr_apart _ _ _ _ _ hd]; exact h.b, h.r, h.o, h.n⟩
theorem rE_yes {a : Nat} (ha : a < P) (h : M.isH (M.rd f (a * 4096) 32) = true) : rE P f (a : Int) = 0 := by unfold rE; rw [if_pos (pin_nat ha), Int.toNat_natCast, if_pos h]
theorem rE_bad {a : Nat} (ha : a < P) (h : M.isH (M.rd f (a * 4096) 32) = false) : rE P f (a : Int) = 5 := by unfold rE; rw [if_pos (pin_nat ha), Int.toNat_natCast, h]; rfl
theorem rT_in {a : Nat} (ha : a < P) : rT P (a : Int) = 1 := by unfold rT; rw [if_pos (pin_nat ha)]
theorem read_hd (h : At w0 w s P T f O) (x : Int) (a p k o n : Nat) (hx : x = a) (ha : a < P) (hs : Stands f a p k o n) (hT : T ≤ 900000000000) :
    Calls Try.prog 16 #[.pointer (some ⟨s, 0, none⟩), .int .i64 x] w fun e w' => e = .returned (.tuple #[hv p k o n, .int .i64 0]) ∧ At w0 w' s P (T + 1) f O ∧ Kept w w' O := by
  subst hx
  have q := at_read h a hT
  have eE := rE_yes ha hs.isH
  unfold rV at q
  rw [eE, if_pos rfl, Int.toNat_natCast, hs.v, rT_in ha] at q
  exact q
theorem read_bad (h : At w0 w s P T f O) (x : Int) (a : Nat) (hx : x = a) (ha : a < P) (hs : M.isH (M.rd f (a * 4096) 32) = false) (hT : T ≤ 900000000000) :
    Calls Try.prog 16 #[.pointer (some ⟨s, 0, none⟩), .int .i64 x] w fun e w' => e = .returned (.tuple #[hv 0 0 0 0, .int .i64 5]) ∧ At w0 w' s P (T + 1) f O ∧ Kept w w' O := by
  subst hx
  have q := at_read h a hT
  have eE := rE_bad ha hs
  unfold rV at q
  rw [eE, if_neg (by omega), rT_in ha] at q
  exact q
theorem link_hd (h : At w0 w s P T f O) (x : Int) (a m : Nat) (hx : x = a) (ha : a < P) (hs : M.isH (M.rd f (a * 4096) 32) = true) (hm : m < 18446744073709551616) (hT : T ≤ 800000000000) :
    Calls Try.prog 18 #[.pointer (some ⟨s, 0, none⟩), .int .i64 x, .int .u64 (m : Int)] w fun e w' => e = .returned (.int .i64 0) ∧ At w0 w' s P (T + 2) (M.wr f (a * 4096 + 24) (M.enc 8 m)) (Wid O w w') ∧ Kept w w' O := by
  subst hx
  have q := at_link h a m hm hT
  have eE := rE_yes ha hs
  unfold kT kF at q
  rw [eE, if_pos rfl, if_pos rfl, Int.toNat_natCast, rT_in ha] at q
  exact q
theorem link_bad (h : At w0 w s P T f O) (x : Int) (a m : Nat) (hx : x = a) (ha : a < P) (hs : M.isH (M.rd f (a * 4096) 32) = false) (hm : m < 18446744073709551616) (hT : T ≤ 800000000000) :
    Calls Try.prog 18 #[.pointer (some ⟨s, 0, none⟩), .int .i64 x, .int .u64 (m : Int)] w fun e w' => e = .returned (.int .i64 5) ∧ At w0 w' s P (T + 1) f (Wid O w w') ∧ Kept w w' O := by
  subst hx
  have q := at_link h a m hm hT
  have eE := rE_bad ha hs
  unfold kT kF at q
  rw [eE, if_neg (by omega), if_neg (by omega), rT_in ha] at q
  exact q
theorem clear_hd (h : At w0 w s P T f O) (x : Int) (a : Nat) (hx : x = a) (ha : a < P) (hs : M.isH (M.rd f (a * 4096) 32) = true) (hT : T ≤ 800000000000) :
    Calls Try.prog 20 #[.pointer (some ⟨s, 0, none⟩), .int .i64 x] w fun e w' => e = .returned (.int .i64 0) ∧ At w0 w' s P (T + 2) (M.zr f (a * 4096) 32) (Wid O w w') ∧ Kept w w' O := by
  subst hx
  have q := at_clear h a hT
  have eE := rE_yes ha hs
  unfold kT cF at q
  rw [eE, if_pos rfl, if_pos rfl, Int.toNat_natCast, rT_in ha] at q
  exact q
theorem clear_bad (h : At w0 w s P T f O) (x : Int) (a : Nat) (hx : x = a) (ha : a < P) (hs : M.isH (M.rd f (a * 4096) 32) = false) (hT : T ≤ 800000000000) :
    Calls Try.prog 20 #[.pointer (some ⟨s, 0, none⟩), .int .i64 x] w fun e w' => e = .returned (.int .i64 5) ∧ At w0 w' s P (T + 1) f (Wid O w w') ∧ Kept w w' O := by
  subst hx
  have q := at_clear h a hT
  have eE := rE_bad ha hs
  unfold kT cF at q
  rw [eE, if_neg (by omega), if_neg (by omega), rT_in ha] at q
  exact q
theorem write_hd (h : At w0 w s P T f O) (x : Int) (a : Nat) (y z : Int) (p k o n : Nat) (hx : x = a) (ha : a < P) (hy : y = p) (hz : z = k) (hr : M.right (p : Nat) (k : Nat) = true) (ho : o < 18446744073709551616) (hn : n < 18446744073709551616) (hT : T ≤ 900000000000) :
    Calls Try.prog 14 #[.pointer (some ⟨s, 0, none⟩), .int .i64 x, hv y z o n] w fun e w' => e = .returned (.int .i64 0) ∧ At w0 w' s P (T + 1) (M.wr f (a * 4096) (M.hd p k o n)) (Wid O w w') ∧ Kept w w' O := by
  subst hx hy hz
  have q := at_write h a p k o n ho hn hT
  have eE : wE P (a : Int) p k = 0 := by unfold wE; rw [if_pos hr, if_pos (pin_nat ha)]
  unfold wT wF at q
  rw [eE, if_pos rfl, if_pos rfl, Int.toNat_natCast, Int.toNat_natCast, Int.toNat_natCast] at q
  exact q
theorem cleared_bad (f : Nat → UInt8) (a : Nat) : M.isH (M.rd (M.zr f (a * 4096) 32) (a * 4096) 32) = false := by rw [M.rd_clear]; exact M.isH_zero
end

set_option maxHeartbeats 8000000 in
theorem awake_any (w : World) : Calls Try.prog 8 #[] w fun e w' => e = .returned (.bool true) ∧ Below w.heap.size w w' := by
  go_enter Try.func8, Try.ntmps8
  go_wp2_with fail
  refine (at_new (Below.refl w.heap.size w) 4 4 (by decide)).mono ?_
  rintro e w1 ⟨s, O1, rfl, A1⟩
  have hno : ¬ O1 w1.heap.size := fun e => by have := A1.sp.lt e; omega
  have X1 := Lib.hid (Box4.new w1 33 (.int .i64 2) (.int .i64 1) (.int .u64 7) (.int .u64 0))
  have H1 := Lib.hid (And.intro (A1.alloc (.cells #[.int .i64 2, .int .i64 1, .int .u64 7, .int .u64 0] 33)) hno)
  clear A1 hno
  go_upto_region 3 with fail
  generalize w1.alloc (.cells #[.int .i64 2, .int .i64 1, .int .u64 7, .int .u64 0] 33) = w2 at *
  generalize w1.heap.size = b2 at *
  have c0 := X1.out.c0
  have c1 := X1.out.c1
  have c2 := X1.out.c2
  have c3 := X1.out.c3
  go_wp2_with fail
  refine (write_hd H1.out.1 3 3 2 1 2 1 7 0 rfl (by omega) rfl rfl (by decide) (by omega) (by omega) (by omega)).mono ?_
  rintro e w3 ⟨rfl, A3, k3⟩
  have hlt := X1.out.lt
  have s3 := Stands.written (fun _ => 0) 3 2 1 7 0 (by decide) (by omega) (by omega)
  generalize hf3 : M.wr (fun _ => 0) (3 * 4096) (M.hd 2 1 7 0) = f3 at *
  clear hf3
  have X3 := Lib.hid (X1.out.kept k3 H1.out.2)
  have H3 := Lib.hid (show At w w3 s 4 1 f3 _ ∧ ¬ Wid O1 w2 w3 b2 ∧ Stands f3 3 2 1 7 0 from ⟨A3, fun e => e.elim H1.out.2 (fun e => by omega), s3⟩)
  clear A3 k3 s3 c0 c1 c2 c3 H1 X1 hlt
  generalize Wid O1 w2 w3 = O3 at *
  go_wp2_with fail
  refine (read_hd H3.out.1 3 3 2 1 7 0 rfl (by omega) H3.out.2.2 (by omega)).mono ?_
  rintro e w4 ⟨rfl, A4, k4⟩
  have X4 := Lib.hid (X3.out.kept k4 H3.out.2.1)
  have Y4 := Lib.hid (Box4.new w4 33 (.int .i64 2) (.int .i64 1) (.int .u64 7) (.int .u64 0))
  have b5 := below_new w4 (.cells #[.int .i64 2, .int .i64 1, .int .u64 7, .int .u64 0] 33)
  have hlt : ∀ b, O3 b → b < w4.heap.size := fun b hb => A4.sp.lt hb
  have X5 := Lib.hid (X4.out.below b5)
  have H5 := Lib.hid (And.intro (A4.same b5) (show ¬ O3 b2 ∧ ¬ O3 w4.heap.size from ⟨H3.out.2.1, fun e => by have := hlt _ e; omega⟩))
  clear A4 k4 b5 hlt X4 X3
  go_upto_region 5 with fail
  generalize w4.alloc (.cells #[.int .i64 2, .int .i64 1, .int .u64 7, .int .u64 0] 33) = w5 at *
  generalize w4.heap.size = b4 at *
  go_wp2_with fail
  refine (link_hd H5.out.1 3 3 5 rfl (by omega) H3.out.2.2.isH (by omega) (by omega)).mono ?_
  rintro e w6 ⟨rfl, A6, k6⟩
  have s6 := H3.out.2.2.linked 5 (by omega)
  generalize hf6 : M.wr f3 (3 * 4096 + 24) (M.enc 8 5) = f6 at *
  clear hf6
  have X6 := Lib.hid (X5.out.kept k6 H5.out.2.1)
  have Y6 := Lib.hid (Y4.out.kept k6 H5.out.2.2)
  have l1 := X5.out.lt
  have l2 := Y4.out.lt
  have H6 := Lib.hid (show At w w6 s 4 4 f6 _ ∧ ¬ Wid O3 w5 w6 b2 ∧ ¬ Wid O3 w5 w6 b4 ∧ Stands f6 3 2 1 7 5 from ⟨A6, fun e => e.elim H5.out.2.1 (fun e => by omega), fun e => e.elim H5.out.2.2 (fun e => by omega), s6⟩)
  clear A6 k6 s6 l1 l2 X5 Y4 H5 H3
  generalize Wid O3 w5 w6 = O6 at *
  go_wp2_with fail
  refine (read_hd H6.out.1 3 3 2 1 7 5 rfl (by omega) H6.out.2.2.2 (by omega)).mono ?_
  rintro e w7 ⟨rfl, A7, k7⟩
  have X7 := X6.out.kept k7 H6.out.2.1
  have Y7 := Y6.out.kept k7 H6.out.2.2.1
  have Z7 := Lib.hid (Box4.new w7 33 (.int .i64 2) (.int .i64 1) (.int .u64 7) (.int .u64 5))
  have b8 := below_new w7 (.cells #[.int .i64 2, .int .i64 1, .int .u64 7, .int .u64 5] 33)
  have hlt : ∀ b, O6 b → b < w7.heap.size := fun b hb => A7.sp.lt hb
  have X8 := Lib.hid (X7.below b8)
  have Y8 := Lib.hid (Y7.below b8)
  have H8 := Lib.hid (And.intro (A7.same b8) (show ¬ O6 w7.heap.size from fun e => by have := hlt _ e; omega))
  clear A7 k7 b8 hlt X7 Y7 X6 Y6
  go_upto_region 7 with fail
  generalize w7.alloc (.cells #[.int .i64 2, .int .i64 1, .int .u64 7, .int .u64 5] 33) = w8 at *
  generalize w7.heap.size = b7 at *
  go_wp2_with fail
  refine (clear_hd H8.out.1 3 3 rfl (by omega) H6.out.2.2.2.isH (by omega)).mono ?_
  rintro e w9 ⟨rfl, A9, k9⟩
  have s9 := cleared_bad f6 3
  generalize hf9 : M.zr f6 (3 * 4096) 32 = f9 at *
  clear hf9
  have l1 := X8.out.lt
  have l2 := Y8.out.lt
  have l3 := Z7.out.lt
  have X9 := Lib.hid (show Box4 w9 b2 _ _ _ _ ∧ Box4 w9 b4 _ _ _ _ ∧ Box4 w9 b7 _ _ _ _ ∧ ¬ Wid O6 w8 w9 b2 ∧ ¬ Wid O6 w8 w9 b4 ∧ ¬ Wid O6 w8 w9 b7 from ⟨X8.out.kept k9 H6.out.2.1, Y8.out.kept k9 H6.out.2.2.1, Z7.out.kept k9 H8.out.2, fun e => e.elim H6.out.2.1 (fun e => by omega), fun e => e.elim H6.out.2.2.1 (fun e => by omega), fun e => e.elim H8.out.2 (fun e => by omega)⟩)
  have H9 := Lib.hid (And.intro A9 s9)
  clear A9 s9 k9 l1 l2 l3 X8 Y8 Z7 H8 H6
  generalize Wid O6 w8 w9 = O9 at *
  go_wp2_with fail
  refine (read_bad H9.out.1 3 3 rfl (by omega) H9.out.2 (by omega)).mono ?_
  rintro e w10 ⟨rfl, A10, k10⟩
  have b11 := below_new w10 (.cells #[.int .i64 0, .int .i64 0, .int .u64 0, .int .u64 0] 33)
  have x11 := (X9.out.1.kept k10 X9.out.2.2.2.1).below b11
  have y11 := (X9.out.2.1.kept k10 X9.out.2.2.2.2.1).below b11
  have z11 := (X9.out.2.2.1.kept k10 X9.out.2.2.2.2.2).below b11
  have H11 := Lib.hid (A10.same b11)
  clear A10 k10 b11 X9 H9
  go_upto_region 9 with fail
  generalize w10.alloc (.cells #[.int .i64 0, .int .i64 0, .int .u64 0, .int .u64 0] 33) = w11 at *
  generalize w10.heap.size = b10 at *
  have c0 := x11.c0
  have c1 := x11.c1
  have c2 := x11.c2
  have c3 := x11.c3
  have d0 := y11.c0
  have d1 := y11.c1
  have d2 := y11.c2
  have d3 := y11.c3
  have e3 := z11.c3
  clear x11 y11 z11
  go_wp2_with fail
  refine (ticks_at H11.out).mono ?_
  rintro e w' ⟨rfl, rfl⟩
  go_wp2_with fail
  go_ret
  exact ⟨rfl, H11.out.bel⟩
end Go.Proofs.Ytacognejefeboaa
