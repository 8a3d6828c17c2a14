/-
  What laws over spaces go by: a space beside the arguments, and slices that were loaded.
-/
import Derived.Test.YtacognejefeboaaOps4
namespace Go.Proofs.Ytacognejefeboaa
open Go.ChangeShapes Go.WideShapes Go.ChangeAt Go.RowKit
set_option linter.unusedVariables false
set_option maxRecDepth 20000

/-- The blocks that a space may write behind some calls: those of old, and new ones. -/
abbrev Wid (O : Nat → Prop) (w w' : World) : Nat → Prop := fun b => O b ∨ (w.heap.size ≤ b ∧ b < w'.heap.size)
theorem touch_le {a n P : Nat} (h : M.inB a n (P * 4096) = true) (hP : P ≤ 1048576) : M.touched a n ≤ 1048578 := by
  have h1 := inB_in h
  have h2 := M.touched_le a n
  omega

theorem u16_nat {a : Int} (h : (Lit.int .u16 a).wf = true) : ∃ n : Nat, n < 65536 ∧ a = n := by
  have := bounds_u16 h
  exact ⟨a.toNat, by omega, by omega⟩
theorem in_of {a n z : Nat} (h : a + n ≤ z) (hz : z < 18446744073709551616) : M.inB a n z = true := by
  unfold M.inB M.addB M.addV
  have h1 : a + n < 18446744073709551616 := by omega
  rw [if_pos h1]
  simp [h1, h]
theorem out_of {a n z : Nat} (h : z < a + n) : M.inB a n z = false := by
  unfold M.inB M.addB M.addV
  by_cases h1 : a + n < 18446744073709551616
  · rw [if_pos h1]; simp [h]
  · simp [h1]

theorem lies_low {w : World} {A : Option Addr} {xs : List UInt8} (h : Lies w A (u8s xs)) (h0 : 0 < xs.length) (ad : Addr) (e : A = some ad) : ad.block < w.heap.size := by
  obtain ⟨ad', e', hc⟩ := h (by rw [u8s_length]; exact h0)
  have hh := lt_of_cell (hc 0 (by rw [u8s_length]; exact h0))
  rw [block_of_add] at hh
  rw [e] at e'
  injection e' with e'
  rw [e']
  exact hh
theorem row_top {w : World} {a : Option Addr} {len cap : Nat} {zs : List Int} (h : IsRow .u8 w a len cap zs) : len ≤ 9223372036854775807 := by
  rcases h with ⟨rfl, rfl, rfl, rfl⟩ | ⟨x, rfl, hl, hm, hz, hc, hw⟩
  · exact Nat.zero_le _
  · unfold maxLen at hm; omega
/-- 'b[i:j]'. -/
theorem cut_mid (A : Option Addr) (n cap i j : Nat) (x y : Int) (hx : x = i) (hy : y = j) (hij : i ≤ j) (hj : j ≤ n) (hn : n ≤ cap) : ∃ A' c', (∀ W, (Instr.slice 34 (.slice A n cap) (some (.int .i64 x)) (some (.int .i64 y)) none).run Try.prog W = .ok (.slice A' (j - i) c') W) ∧
    ∀ (W : World) (xs : List Value), xs.length = n → Lies W A xs → Lies W A' ((xs.drop i).take (j - i)) := by
  subst hx hy
  refine ⟨if cap = i then A else A.map (·.add (i * 1)), cap - i, fun W => by rw [run_slice_lh W 34 A n cap und22 .i64 .i64 i j (by omega) (by omega) (by omega), elem22, size5]; simp only [Result.andThen_ok, sliced, Int.toNat_natCast], fun W xs hxn h hn => ?_⟩
  have hl : i < xs.length := by simp at hn; omega
  obtain ⟨ad, rfl, hc⟩ := h (by omega)
  refine ⟨ad.add i, by rw [if_neg (by omega)]; simp, fun q hq => ?_⟩
  rw [add_add, hc (i + q) (by simp at hq; omega)]
  simp

/-- A space that a call made, beside what it was handed. -/
structure At (w0 w : World) (s P T : Nat) (f : Nat → UInt8) (O : Nat → Prop) : Prop where
  sp : Sp w s P T f O
  bel : Below w0.heap.size w0 w
  old : ∀ b, O b → w0.heap.size ≤ b
/-- A slice of bytes that is not the space's. -/
structure Loose (w : World) (O : Nat → Prop) (g : Nat) (l : List UInt8) : Prop where
  own : Own w g l
  no : ¬ O g
  lt : g < w.heap.size
section
variable {w0 w w' : World} {s P T : Nat} {f : Nat → UInt8} {O : Nat → Prop} {g : Nat} {l : List UInt8}
theorem Loose.kept (h : Loose w O g l) (k : Kept w w' O) : Loose w' O g l := ⟨k.own h.own h.lt h.no, h.no, Nat.lt_of_lt_of_le h.lt k.size⟩
theorem Loose.wid (h : Loose w O g l) (k : Kept w w' O) : Loose w' (Wid O w w') g l := ⟨k.own h.own h.lt h.no, fun e => e.elim h.no (fun e => by have := h.lt; omega), Nat.lt_of_lt_of_le h.lt k.size⟩
theorem Loose.conv (h : Loose w O g l) (z c : Nat) (hz : z = l.length) : (convert 34 9 (.slice (some ⟨g, 0, none⟩) z c)).run Try.prog w = .ok (.string ⟨l.toArray⟩) w := conv_at w _ z l c hz h.own.lies
theorem At.kept (h : At w0 w s P T f O) {s' T' : Nat} {f' : Nat → UInt8} {O' : Nat → Prop} (hs : Sp w' s' P T' f' O') (k : Kept w w' O) (hO : ∀ b, O' b → w0.heap.size ≤ b) : At w0 w' s' P T' f' O' :=
  ⟨hs, h.bel.trans (k.below h.bel.size h.old), hO⟩
theorem At.low (h : At w0 w s P T f O) {b : Nat} (hb : b < w0.heap.size) : ¬ O b := fun e => by have := h.old b e; omega
theorem At.wid (h : At w0 w s P T f O) : ∀ b, Wid O w w' b → w0.heap.size ≤ b := fun b e => e.elim (h.old b) (fun e => Nat.le_trans h.bel.size e.1)
theorem At.same (h : At w0 w s P T f O) (hb : Below w.heap.size w w') : At w0 w' s P T f O := ⟨h.sp.below hb, below_call h.bel hb, h.old⟩

theorem at_new (h : Below w0.heap.size w0 w) (x : Int) (P : Nat) (hP : (P : Int) = min (max x 1) 1048576) :
    Calls Try.prog 10 #[.int .i64 x] w fun e w' => ∃ s O, e = .returned (.pointer (some ⟨s, 0, none⟩)) ∧ At w0 w' s P 0 (fun _ => 0) O := by
  refine (snew_any x P hP w).mono ?_
  rintro e w' ⟨s, rfl, S, b⟩
  exact ⟨s, _, rfl, S, below_call h b, fun b hb => Nat.le_trans h.size hb.1⟩
theorem at_load (h : At w0 w s P T f O) (a n : Nat) (hin : a + n ≤ P * 4096) (hn : n ≤ 1048576) (hT : T ≤ 1000000000000) :
    Calls Try.prog 24 #[.pointer (some ⟨s, 0, none⟩), .int .u64 a, .int .u64 n] w fun e w' => ∃ g, e = .returned (.tuple #[.slice (some ⟨g, 0, none⟩) n n, .int .i64 0]) ∧
      At w0 w' s P (T + M.touched a n) f O ∧ Loose w' O g (M.rd f a n) ∧ Kept w w' O ∧ w0.heap.size ≤ g ∧ w.heap.size ≤ g := by
  have hP := h.sp.top
  have hi := in_of hin (by omega)
  have ht := touch_le hi hP.2
  refine (load_ok h.sp a n (by omega) hi hn (by omega)).mono ?_
  rintro e w' ⟨g, rfl, h1, h2, o, S, k⟩
  exact ⟨g, rfl, h.kept S k h.old, ⟨o, fun e => by have := h.sp.lt e; omega, h2⟩, k, Nat.le_trans h.bel.size h1, h1⟩
theorem at_store (h : At w0 w s P T f O) (a n c : Nat) (A : Option Addr) (xs : List UInt8) (hx : n = xs.length) (hl : Lies w A (u8s xs)) (hc : n ≤ c) (hap : 0 < xs.length → ∀ ad, A = some ad → ¬ O ad.block)
    (hin : a + n ≤ P * 4096) (hn : n ≤ 1048576) (hT : T ≤ 1000000000000) :
    Calls Try.prog 22 #[.pointer (some ⟨s, 0, none⟩), .int .u64 a, .slice A n c] w fun e w' => e = .returned (.int .i64 0) ∧ At w0 w' s P (T + M.touched a n) (M.wr f a xs) (Wid O w w') ∧ Kept w w' O := by
  have hP := h.sp.top
  have hi := in_of hin (by omega)
  have ht := touch_le hi hP.2
  refine (store_ok h.sp a n c A xs hx hl hc hap (by omega) hi hn (by omega)).mono ?_
  rintro e w' ⟨rfl, S, k⟩
  exact ⟨rfl, h.kept S k h.wid, k⟩
theorem at_zero (h : At w0 w s P T f O) (a n : Nat) (hin : a + n ≤ P * 4096) (hT : T ≤ 1000000000000) :
    Calls Try.prog 37 #[.pointer (some ⟨s, 0, none⟩), .int .u64 a, .int .u64 n] w fun e w' => e = .returned (.int .i64 0) ∧ At w0 w' s P (T + M.touched a n) (M.zr f a n) O ∧ Kept w w' O := by
  have hP := h.sp.top
  have hi := in_of hin (by omega)
  have ht := touch_le hi hP.2
  refine (zero_ok h.sp a n (by omega) (by omega) hi (by omega)).mono ?_
  rintro e w' ⟨rfl, S, k⟩
  exact ⟨rfl, h.kept S k h.old, k⟩
theorem At.tl (h : At w0 w s P T f O) (a n : Nat) (hin : a + n ≤ P * 4096) : M.touched a n ≤ 1048578 := touch_le (in_of hin (by have := h.sp.top; omega)) h.sp.top.2
theorem size_at (h : At w0 w s P T f O) (Z : Nat) (hZ : Z = P * 4096) :
    Calls Try.prog 59 #[.pointer (some ⟨s, 0, none⟩)] w fun e w' => e = .returned (.int .u64 (Z : Int)) ∧ w = w' := by
  subst hZ
  exact ssize_any h.sp
theorem At.drewN (h : At w0 w s P T f O) (n : Nat) : At w0 (w.drewN n) s P T f O := ⟨h.sp.drewN n, below_drewN' h.bel n, h.old⟩
theorem At.drew (h : At w0 w s P T f O) : At w0 w.drew s P T f O := ⟨h.sp.drew, h.bel.drew, h.old⟩
theorem At.alloc (h : At w0 w s P T f O) (o : Obj) : At w0 (w.alloc o) s P T f O := ⟨h.sp.alloc o, h.bel.alloc h.bel.size o, h.old⟩
end
section
variable {w0 w w' : World} {s P T : Nat} {f : Nat → UInt8} {O O' : Nat → Prop}
theorem At.other (h : At w0 w s P T f O) (k : Kept w w' O') (hd : ∀ b, O b → ¬ O' b) (hb : Below w0.heap.size w0 w') : At w0 w' s P T f O := ⟨h.sp.kept k hd, hb, h.old⟩
theorem At.wid_apart (h : At w0 w s P T f O) (hd : ∀ b, O b → ¬ O' b) : ∀ b, O b → ¬ Wid O' w w' b := fun b hb e => e.elim (hd b hb) (fun e => by have := h.sp.lt hb; omega)
theorem ticks_at (h : At w0 w s P T f O) : Calls Try.prog 23 #[.pointer (some ⟨s, 0, none⟩)] w fun e w' => e = .returned (.int .i64 (T : Int)) ∧ w = w' := sticks_any h.sp
end
end Go.Proofs.Ytacognejefeboaa
