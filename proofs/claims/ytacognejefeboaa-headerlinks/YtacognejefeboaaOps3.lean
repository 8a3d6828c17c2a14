/-
  Load with an error; Store, Zero and Copy.
-/
import Derived.Test.YtacognejefeboaaOps2
namespace Go.Proofs.Ytacognejefeboaa
open Go.ChangeShapes Go.WideShapes Go.ChangeAt Go.RowKit
set_option linter.unusedVariables false
set_option maxRecDepth 20000

theorem load_range {w : World} {s P T : Nat} {f : Nat → UInt8} {O : Nat → Prop} (h : Sp w s P T f O) (a n : Nat) (ha : a < 18446744073709551616) (hn : n < 18446744073709551616) (hin : M.inB a n (P * 4096) = false) :
    Calls Try.prog 24 #[.pointer (some ⟨s, 0, none⟩), .int .u64 a, .int .u64 n] w fun e w' => e = .returned (.tuple #[.slice none 0 0, .int .i64 3]) ∧ Below w.heap.size w w' := by
  have HS := Lib.hid h
  clear h
  go_enter Try.func24, Try.ntmps24
  go_wp2_with fail
  refine (swithin_any (HS.out.alloc _) a n ha hn).mono ?_
  rintro e w' ⟨rfl, rfl⟩
  go_wp2
  go_ret2
  exact ⟨rfl, (Below.refl _ _).alloc (Nat.le_refl _) _⟩
theorem load_arg {w : World} {s P T : Nat} {f : Nat → UInt8} {O : Nat → Prop} (h : Sp w s P T f O) (a n : Nat) (ha : a < 18446744073709551616) (hn : n < 18446744073709551616) (hin : M.inB a n (P * 4096) = true) (h1 : 1048576 < n) :
    Calls Try.prog 24 #[.pointer (some ⟨s, 0, none⟩), .int .u64 a, .int .u64 n] w fun e w' => e = .returned (.tuple #[.slice none 0 0, .int .i64 1]) ∧ Below w.heap.size w w' := by
  have HS := Lib.hid h
  have hd : decide ((1048576 : Int) < (n : Int)) = true := by simp; omega
  clear h h1
  go_enter Try.func24, Try.ntmps24
  go_wp2_with fail
  refine (swithin_any (HS.out.alloc _) a n ha hn).mono ?_
  rintro e w' ⟨rfl, rfl⟩
  go_wp2
  go_ret2
  exact ⟨rfl, (Below.refl _ _).alloc (Nat.le_refl _) _⟩
theorem load_nil (w : World) (a n : Nat) :
    Calls Try.prog 24 #[.pointer none, .int .u64 a, .int .u64 n] w fun e w' => e = .returned (.tuple #[.slice none 0 0, .int .i64 3]) ∧ Below w.heap.size w w' := by
  go_enter Try.func24, Try.ntmps24
  go_wp2_with fail
  refine (within_nil _ a n).mono ?_
  rintro e w' ⟨rfl, rfl⟩
  go_wp2
  go_ret2
  exact ⟨rfl, (Below.refl _ _).alloc (Nat.le_refl _) _⟩

/-! Store. -/
theorem store_nil (w : World) (a n c : Nat) (A : Option Addr) (hn : n ≤ 9223372036854775807) :
    Calls Try.prog 22 #[.pointer none, .int .u64 a, .slice A n c] w fun e w' => e = .returned (.int .i64 3) ∧ Below w.heap.size w w' := by
  go_enter Try.func22, Try.ntmps22
  go_wp2_with fail
  refine (within_nil _ a n).mono ?_
  rintro e w' ⟨rfl, rfl⟩
  go_wp2
  go_ret
  exact ⟨rfl, (Below.refl _ _).alloc (Nat.le_refl _) _⟩
theorem store_range {w : World} {s P T : Nat} {f : Nat → UInt8} {O : Nat → Prop} (h : Sp w s P T f O) (a n c : Nat) (A : Option Addr) (hn : n ≤ 9223372036854775807) (ha : a < 18446744073709551616) (hin : M.inB a n (P * 4096) = false) :
    Calls Try.prog 22 #[.pointer (some ⟨s, 0, none⟩), .int .u64 a, .slice A n c] w fun e w' => e = .returned (.int .i64 3) ∧ Below w.heap.size w w' := by
  have HS := Lib.hid h
  clear h
  go_enter Try.func22, Try.ntmps22
  go_wp2_with fail
  refine (swithin_any (HS.out.alloc _) a n ha (by omega)).mono ?_
  rintro e w' ⟨rfl, rfl⟩
  go_wp2
  go_ret
  exact ⟨rfl, (Below.refl _ _).alloc (Nat.le_refl _) _⟩
theorem store_arg {w : World} {s P T : Nat} {f : Nat → UInt8} {O : Nat → Prop} (h : Sp w s P T f O) (a n c : Nat) (A : Option Addr) (hn : n ≤ 9223372036854775807) (ha : a < 18446744073709551616) (hin : M.inB a n (P * 4096) = true) (h1 : 1048576 < n) :
    Calls Try.prog 22 #[.pointer (some ⟨s, 0, none⟩), .int .u64 a, .slice A n c] w fun e w' => e = .returned (.int .i64 1) ∧ Below w.heap.size w w' := by
  have HS := Lib.hid h
  have hd : decide ((1048576 : Int) < (n : Int)) = true := by simp; omega
  clear h h1
  go_enter Try.func22, Try.ntmps22
  go_wp2_with fail
  refine (swithin_any (HS.out.alloc _) a n ha (by omega)).mono ?_
  rintro e w' ⟨rfl, rfl⟩
  go_wp2
  go_ret
  exact ⟨rfl, (Below.refl _ _).alloc (Nat.le_refl _) _⟩
theorem store_world (w : World) (s n c : Nat) (A : Option Addr) :
    let W := (w.alloc (.cells #[.pointer (some ⟨s, 0, none⟩)] 25)).alloc (.cells #[.slice A n c] 34)
    W.cell? ⟨w.heap.size, 0, none⟩ = some (.pointer (some ⟨s, 0, none⟩)) ∧ W.cell? ⟨w.heap.size + 1, 0, none⟩ = some (.slice A n c) ∧ W.frozen? ⟨w.heap.size + 1, 0, none⟩ = false ∧ W.heap.size = w.heap.size + 2 ∧ Kept w W (fun _ => False) := by
  intro W
  have z1 : (w.alloc (.cells #[.pointer (some ⟨s, 0, none⟩)] 25)).heap.size = w.heap.size + 1 := by simp
  have z3 : W.heap.size = w.heap.size + 2 := by show (World.alloc _ _).heap.size = _; simp
  refine ⟨?_, ?_, ?_, z3, ((Kept.refl w (fun _ => False)).alloc _).alloc _⟩
  · show (World.alloc _ _).cell? _ = _
    rw [World.cell?_alloc_lt _ _ ⟨w.heap.size, 0, none⟩ (by rw [z1]; show w.heap.size < _; omega), World.cell?_alloc_mark]
    rfl
  · have := World.cell?_alloc_mark (w.alloc (.cells #[.pointer (some ⟨s, 0, none⟩)] 25)) #[.slice A n c] 34 (0, 0) 0
    rw [z1] at this
    exact this
  · have := World.frozen?_alloc_mark (w.alloc (.cells #[.pointer (some ⟨s, 0, none⟩)] 25)) #[.slice A n c] 34 0
    rw [z1] at this
    rw [this]
    simp
theorem store_ok {w : World} {s P T : Nat} {f : Nat → UInt8} {O : Nat → Prop} (h : Sp w s P T f O) (a n c : Nat) (A : Option Addr) (xs : List UInt8) (hx : n = xs.length) (hl : Lies w A (u8s xs)) (hc : n ≤ c) (hap : 0 < xs.length → ∀ ad, A = some ad → ¬ O ad.block)
    (ha : a < 18446744073709551616) (hin : M.inB a n (P * 4096) = true) (hn : n ≤ 1048576) (hT : T + M.touched a n < 9223372036854775808) :
    Calls Try.prog 22 #[.pointer (some ⟨s, 0, none⟩), .int .u64 a, .slice A n c] w fun e w' => e = .returned (.int .i64 0) ∧
      Sp w' s P (T + M.touched a n) (M.wr f a xs) (fun b => O b ∨ (w.heap.size ≤ b ∧ b < w'.heap.size)) ∧ Kept w w' O := by
  have hP := h.top
  have hi := inB_in hin
  have HS := Lib.hid h
  have HX := Lib.hid (show n = xs.length ∧ Lies w A (u8s xs) ∧ (0 < xs.length → ∀ ad, A = some ad → ¬ O ad.block) from ⟨hx, hl, hap⟩)
  clear h hx hl hap
  go_enter Try.func22, Try.ntmps22
  go_wp2_with fail
  refine (swithin_any (HS.out.alloc _) a n ha (by omega)).mono ?_
  rintro e w' ⟨rfl, rfl⟩
  go_wp2_with fail
  obtain ⟨c0, c1, c2, c4, c5⟩ := store_world w s n c A
  generalize hW : (w.alloc (.cells #[.pointer (some ⟨s, 0, none⟩)] 25)).alloc (.cells #[.slice A n c] 34) = W at *
  clear hW
  generalize hbr : w.heap.size + 1 = br at c1 c2 ⊢
  generalize hbs : w.heap.size = bs at c0 ⊢
  have HB := Lib.hid (show bs = w.heap.size ∧ br = w.heap.size + 1 from ⟨hbs.symm, by omega⟩)
  clear hbs hbr
  have S3 := HS.out.kept c5 (fun _ _ h => h)
  have hOl := fun b => HS.out.lt (b := b)
  obtain ⟨m, G, h1, h2, h3, h4⟩ := S3
  have hm : ∀ b, w.heap.size ≤ b → ¬ Mine s m G b := fun b hb hM => by have := hOl b (h3 b hM); omega
  obtain ⟨hx, hl, hap⟩ := HX.out
  have hblk : 0 < xs.length → ∀ ad, A = some ad → ad.block < w.heap.size := fun h0 ad e => by
    obtain ⟨ad', e', hc'⟩ := hl (by rw [u8s_length]; exact h0)
    have hh := lt_of_cell (hc' 0 (by rw [u8s_length]; exact h0))
    rw [block_of_add] at hh
    rw [e] at e'
    injection e' with e'
    rw [e']
    exact hh
  rw [hx] at c1 hc hi ⊢
  refine (each_store h1 bs br a xs A c c0 c1 c2 (c5.lies hl (fun _ _ _ h => h)) hc hi (by have := HB.out; omega) (hm _ (by have := HB.out; omega)) (hm _ (by have := HB.out; omega)) (fun h0 ad e => ⟨fun hM => hap h0 ad e (h3 _ hM), by have := hblk h0 ad e; have := HB.out; omega, by have := hblk h0 ad e; omega⟩)).mono ?_
  rw [← hx]
  rintro e w4 ⟨rfl, G4, g1, g2, g3, g4⟩
  have c0' := g4.cell_some c0 (fun e => e.elim (hm _ (by have := HB.out; show _ ≤ bs; omega)) (by have := HB.out; show ¬ bs = br; omega))
  have S4 : Sp w4 s P T (M.wr f a xs) (fun b => O b ∨ (w.heap.size ≤ b ∧ b < w4.heap.size)) := ⟨m, G4, g1, by rw [g2, h2], fun b hb => (g3 b hb).imp (h3 b) (fun h => ⟨by omega, g1.mine_lt hb⟩), fun b hb => hb.elim (fun h => Nat.lt_of_lt_of_le (hOl b h) (Nat.le_trans c5.size g4.size)) (fun h => h.2)⟩
  have K4 := Lib.hid ((c5.mono (O' := O) (fun _ _ h => h.elim)).trans g4 (fun i hi e => e.elim (h3 i) (fun e => by have := HB.out; omega)))
  clear g1 g2 g3 g4 c0 c1 c2 c4 c5 h1 h2 h3 h4 hm HS hx hl hap hblk
  go_wp2_with fail
  refine (stouch_any S4 a n (by have := HX.out.1; omega) hT).mono ?_
  rintro e w5 ⟨rfl, S5, k5⟩
  have H5 := Lib.hid (show Sp w5 s P (T + M.touched a n) (M.wr f a xs) (fun b => O b ∨ (w.heap.size ≤ b ∧ b < w4.heap.size)) ∧ Kept w4 w5 (fun b => O b ∨ (w.heap.size ≤ b ∧ b < w4.heap.size)) from ⟨S5, k5⟩)
  clear S5 k5 S4
  go_wp2
  go_ret
  have q5 := H5.out.2.size
  refine ⟨rfl, H5.out.1.mono (fun b hb => hb.imp id (fun h => ⟨h.1, by omega⟩)) (fun b hb => hb.elim (fun h => Nat.lt_of_lt_of_le (hOl b h) (Nat.le_trans K4.out.size q5)) (fun h => h.2)), K4.out.trans H5.out.2 (fun i hi e => e.elim id (fun h => by omega))⟩
end Go.Proofs.Ytacognejefeboaa
