/-
  Zero and Copy.
-/
import Derived.Test.YtacognejefeboaaOps3
namespace Go.Proofs.Ytacognejefeboaa
open Go.ChangeShapes Go.WideShapes Go.ChangeAt Go.RowKit
set_option linter.unusedVariables false
set_option maxRecDepth 20000

theorem zero_nil (w : World) (a n : Nat) :
    Calls Try.prog 37 #[.pointer none, .int .u64 a, .int .u64 n] w fun e w' => e = .returned (.int .i64 3) ∧ Below w.heap.size w w' := by
  go_enter Try.func37, Try.ntmps37
  go_wp2_with fail
  refine (within_nil _ a n).mono ?_
  rintro e w' ⟨rfl, rfl⟩
  go_wp2
  go_ret
  exact ⟨rfl, (Below.refl _ _).alloc (Nat.le_refl _) _⟩
theorem zero_range {w : World} {s P T : Nat} {f : Nat → UInt8} {O : Nat → Prop} (h : Sp w s P T f O) (a n : Nat) (ha : a < 18446744073709551616) (hn : n < 18446744073709551616) (hin : M.inB a n (P * 4096) = false) :
    Calls Try.prog 37 #[.pointer (some ⟨s, 0, none⟩), .int .u64 a, .int .u64 n] w fun e w' => e = .returned (.int .i64 3) ∧ Below w.heap.size w w' := by
  have HS := Lib.hid h
  clear h
  go_enter Try.func37, Try.ntmps37
  go_wp2_with fail
  refine (swithin_any (HS.out.alloc _) a n ha hn).mono ?_
  rintro e w' ⟨rfl, rfl⟩
  go_wp2
  go_ret
  exact ⟨rfl, (Below.refl _ _).alloc (Nat.le_refl _) _⟩
theorem zero_ok {w : World} {s P T : Nat} {f : Nat → UInt8} {O : Nat → Prop} (h : Sp w s P T f O) (a n : Nat) (ha : a < 18446744073709551616) (hn : n < 18446744073709551616) (hin : M.inB a n (P * 4096) = true) (hT : T + M.touched a n < 9223372036854775808) :
    Calls Try.prog 37 #[.pointer (some ⟨s, 0, none⟩), .int .u64 a, .int .u64 n] w fun e w' => e = .returned (.int .i64 0) ∧ Sp w' s P (T + M.touched a n) (M.zr f a n) O ∧ Kept w w' O := by
  have hP := h.top
  have hi := inB_in hin
  have HS := Lib.hid h
  clear h
  go_enter Try.func37, Try.ntmps37
  go_wp2_with fail
  refine (swithin_any (HS.out.alloc _) a n ha hn).mono ?_
  rintro e w' ⟨rfl, rfl⟩
  go_wp2_with fail
  have c0 := World.cell?_alloc_mark w #[.pointer (some ⟨s, 0, none⟩)] 25 (0, 0) 0
  have c5 := (Kept.refl w (fun _ => False)).alloc (.cells #[.pointer (some ⟨s, 0, none⟩)] 25)
  generalize hW : w.alloc (.cells #[.pointer (some ⟨s, 0, none⟩)] 25) = W at *
  clear hW
  generalize hbs : w.heap.size = bs at c0 ⊢
  have HB := Lib.hid hbs.symm
  clear hbs
  have S3 := HS.out.kept c5 (fun _ _ h => h)
  have hOl := fun b => HS.out.lt (b := b)
  obtain ⟨m, G, h1, h2, h3, h4⟩ := S3
  have hm : ¬ Mine s m G bs := fun hM => by have := hOl _ (h3 _ hM); have := HB.out; omega
  refine (each_zero h1 bs a n c0 hi hm).mono ?_
  rintro e w4 ⟨rfl, G4, g1, g2, g3, g4⟩
  have c0' : w4.cell? ⟨bs, 0, none⟩ = some (.pointer (some ⟨s, 0, none⟩)) := g4.cell_some c0 hm
  have S4 : Sp w4 s P T (M.zr f a n) O := ⟨m, G4, g1, by rw [g2, h2], fun b hb => h3 b ((g3 b).1 hb), fun b hb => Nat.lt_of_lt_of_le (hOl b hb) (Nat.le_trans c5.size g4.size)⟩
  have K4 := Lib.hid ((c5.mono (O' := O) (fun _ _ h => h.elim)).trans g4 (fun i hi e => h3 i e))
  clear g1 g2 g3 g4 c0 c5 h1 h2 h3 h4 hm HS
  go_wp2_with fail
  refine (stouch_any S4 a n (by omega) hT).mono ?_
  rintro e w5 ⟨rfl, S5, k5⟩
  have H5 := Lib.hid (show Sp w5 s P (T + M.touched a n) (M.zr f a n) O ∧ Kept w4 w5 O from ⟨S5, k5⟩)
  clear S5 k5 S4
  go_wp2
  go_ret
  exact ⟨rfl, H5.out.1, K4.out.trans H5.out.2 (fun _ _ h => h)⟩

/-! Copy. -/
end Go.Proofs.Ytacognejefeboaa
