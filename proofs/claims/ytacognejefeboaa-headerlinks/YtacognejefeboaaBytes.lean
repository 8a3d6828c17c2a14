/-
  Slices of bytes and strings: conversions, cuts, what is made.
-/
import Derived.Test.YtacognejefeboaaBase
namespace Go.Proofs.Ytacognejefeboaa
open Go.ChangeShapes Go.WideShapes Go.ChangeAt Go.RowKit
set_option linter.unusedVariables false

theorem conv_str (W : World) (A : Option Addr) (l : List UInt8) (c : Nat) (h : Lies W A (u8s l)) : (convert 34 9 (.slice A l.length c)).run Try.prog W = .ok (.string ⟨l.toArray⟩) W := by
  rcases Nat.eq_zero_or_pos l.length with h0 | h0
  · have : l = [] := List.eq_nil_of_length_eq_zero h0
    subst this
    rw [show ([] : List UInt8).length = 0 from rfl, run_convert_bytes_string W 34 9 5 A 0 c Try.underlying34 Try.underlying5 Try.underlying9]
    cases A with
    | none => rfl
    | some a =>
      have := run_convert_bytes_back (P := Try.prog) W 34 9 5 a c [] Try.underlying34 Try.underlying5 Try.underlying9 (fun j hj => absurd hj (by simp))
      rw [show ([] : List UInt8).length = 0 from rfl, run_convert_bytes_string W 34 9 5 (some a) 0 c Try.underlying34 Try.underlying5 Try.underlying9] at this
      exact this
  · obtain ⟨ad, rfl, hc⟩ := h (by rw [u8s_length]; exact h0)
    refine run_convert_bytes_back W 34 9 5 ad c l Try.underlying34 Try.underlying5 Try.underlying9 fun j hj => ?_
    have := hc j (by rw [u8s_length]; exact hj)
    simpa only [u8s, List.getElem_map] using this
theorem conv_at (W : World) (A : Option Addr) (z : Nat) (l : List UInt8) (c : Nat) (ez : z = l.length) (h : Lies W A (u8s l)) : (convert 34 9 (.slice A z c)).run Try.prog W = .ok (.string ⟨l.toArray⟩) W := by
  subst ez
  exact conv_str W A l c h
theorem conv_one (W : World) (v : Int) (b : UInt8) (hv : v = (b.toNat : Int)) :
    (convert 34 9 (.slice (some ⟨W.heap.size, 0, none⟩) 1 1)).run Try.prog (W.alloc (.cells #[.int .u8 v] 5)) = .ok (.string ⟨#[b]⟩) (W.alloc (.cells #[.int .u8 v] 5)) := by
  subst hv
  refine conv_str _ (some ⟨W.heap.size, 0, none⟩) [b] 1 fun _ => ⟨_, rfl, fun j hj => ?_⟩
  obtain rfl : j = 0 := by simp [u8s] at hj; omega
  show (W.alloc _).cell? ⟨W.heap.size, 0, none⟩ = _
  rw [World.cell?_alloc_mark]
  rfl
theorem slice_to (l p : List UInt8) (a : Nat) (ha : a ≤ l.length) (hl : l.length ≤ 140737488355328) (hp : p = l.take a) (W : World) :
    (Instr.slice 9 (.string ⟨l.toArray⟩) none (some (.int .i64 (a : Int))) none).run Try.prog W = .ok (.string ⟨p.toArray⟩) W := by
  subst hp
  have hsz : (ByteArray.mk l.toArray).size = l.length := by simp [ByteArray.size]
  rw [run_slice_string_to_if _ _ _ _ _ Try.underlying9, if_pos ⟨by omega, by rw [hsz]; omega⟩, Int.toNat_natCast, ByteArray.extract_mk]
  rfl
theorem slice_from (l p : List UInt8) (a : Nat) (x : Int) (hx : x = a) (ha : a ≤ l.length) (hl : l.length ≤ 140737488355328) (hp : p = l.drop a) (W : World) :
    (Instr.slice 9 (.string ⟨l.toArray⟩) (some (.int .i64 x)) none none).run Try.prog W = .ok (.string ⟨p.toArray⟩) W := by
  subst hp hx
  have hsz : (ByteArray.mk l.toArray).size = l.length := by simp [ByteArray.size]
  rw [run_slice_string_from_if _ _ _ _ _ Try.underlying9, if_pos ⟨by omega, by rw [hsz]; omega⟩, Int.toNat_natCast, hsz, ByteArray.extract_mk, List.take_of_length_le (by simp)]
theorem index_str (l : List UInt8) (j : Nat) (h : j < l.length) (x : Int) (hx : x = j) (W : World) :
    (Instr.index 9 (.string ⟨l.toArray⟩) (.int .i64 x)).run Try.prog W = .ok (.int .u8 (l[j].toNat : Int)) W := by
  subst hx
  rw [run_index_string _ _ _ _ _ Try.underlying9]
  have hsz : (ByteArray.mk l.toArray).size = l.length := by simp [ByteArray.size]
  rw [dif_pos ⟨by omega, by rw [hsz]; omega⟩]
  rfl
theorem make22 (z : Nat) (x : Int) (hx : x = z) (h : z ≤ 140737488355328) (W : World) :
    (Instr.makeSlice 34 (.int .i64 x) (.int .i64 x)).run Try.prog W = .ok (.slice (some ⟨W.heap.size, 0, none⟩) z z) (W.alloc (.cells (madeCells #[.int .u8 0] z) 5)) := by
  subst hx
  exact run_make_row' 34 5 (.int .u8 0) 1 Try.underlying34 (by kernel_rfl) rfl .i64 .i64 z (by omega) (by omega) W
theorem own_made (z : Nat) (W : World) : Own (W.alloc (.cells (madeCells #[.int .u8 0] z) 5)) W.heap.size (List.replicate z 0) := by
  have hl : (madeCells #[Value.int .u8 0] z).toList = List.replicate z (.int .u8 0) := toList_madeCells_one _ _
  refine ⟨fun j hj => ?_, fun j hj => ?_⟩
  · rw [World.cell?_alloc_mark, ← Array.getElem?_toList, hl]
    simp at hj ⊢
    simp [hj]
  · rw [World.frozen?_alloc_mark]
    simp
theorem own_lit (W : World) (l : List UInt8) : Own (W.alloc (.cells (u8s l).toArray 5)) W.heap.size l := by
  refine ⟨fun j hj => ?_, fun j hj => ?_⟩
  · rw [World.cell?_alloc_mark]
    simp [u8s, hj]
  · rw [World.frozen?_alloc_mark]
    simp
/-- '[]byte(s)': a new row of one's own. -/
theorem to_bytes (W : World) (l : List UInt8) : ∃ c W', (convert 9 34 (.string ⟨l.toArray⟩)).run Try.prog W = .ok (.slice (some ⟨W.heap.size, 0, none⟩) l.length c) W' ∧ Own W' W.heap.size l ∧ Below W.heap.size W W' ∧ W.heap.size < W'.heap.size := by
  have hs : (ByteArray.mk l.toArray).size = l.length := by simp [ByteArray.size]
  refine ⟨_, _, by rw [run_bytes_of_string W 9 34 5 _ Try.underlying9 Try.underlying34 Try.underlying5, hs], ⟨fun j hj => ?_, fun j hj => ?_⟩, (Below.refl _ _).drew.alloc (Nat.le_refl _) _, by show W.heap.size < (World.alloc _ _).heap.size; simp⟩
  · show (World.alloc W.drew _).cell? ⟨W.drew.heap.size, j, none⟩ = _
    rw [World.cell?_alloc_mark, bytesRow_at _ _ _ (by simpa using hj)]
    simp
  · show (World.alloc W.drew _).frozen? ⟨W.drew.heap.size, j, none⟩ = _
    rw [World.frozen?_alloc_mark]
    have : j < (bytesRow (ByteArray.mk l.toArray) (grownCap W l.length 0 5)).size := by simp [bytesRow]; omega
    simp only [Bool.and_eq_false_imp, decide_eq_true_eq, decide_eq_false_iff_not]
    omega
theorem to_bytes_cap (W : World) (l : List UInt8) : ∃ c W', (convert 9 34 (.string ⟨l.toArray⟩)).run Try.prog W = .ok (.slice (some ⟨W.heap.size, 0, none⟩) l.length c) W' ∧ Own W' W.heap.size l ∧ Below W.heap.size W W' ∧ W.heap.size < W'.heap.size ∧ l.length ≤ c := by
  obtain ⟨c, W', h1, h2⟩ := to_bytes W l
  have hs : (ByteArray.mk l.toArray).size = l.length := by simp [ByteArray.size]
  refine ⟨c, W', h1, h2.1, h2.2.1, h2.2.2, ?_⟩
  rw [run_bytes_of_string W 9 34 5 _ Try.underlying9 Try.underlying34 Try.underlying5, hs] at h1
  injection h1 with h1 _
  injection h1 with _ _ h1
  rw [← h1]
  exact grownCap_ge _ _ _ _
theorem size5 (W : World) : (Go.sizeOf 5).run Try.prog W = .ok 1 W := by
  obtain ⟨i0, hi0, hz0, hz1, hz2⟩ := info_parts (P := Try.prog) (e := 5) (z := .int .u8 0) (size := 1) (bytes := 1) (by kernel_rfl)
  simp [Go.sizeOf, typeInfo, hi0, hz1]
theorem elem22 : Try.prog.elem 34 = 5 := by kernel_rfl
theorem und22 : Try.prog.underlying 34 = some (.slice (Try.prog.elem 34)) := by rw [elem22]; exact Try.underlying34
/-- 'b[:i]'. -/
theorem cut_to (A : Option Addr) (n cap i : Nat) (x : Int) (hx : x = i) (hi : i ≤ cap) : ∃ A' c', (∀ W, (Instr.slice 34 (.slice A n cap) none (some (.int .i64 x)) none).run Try.prog W = .ok (.slice A' i c') W) ∧
    ∀ (W : World) (xs : List Value), Lies W A xs → Lies W A' (xs.take i) := by
  subst hx
  refine ⟨if cap = 0 then A else A.map (·.add (0 * 1)), cap, fun W => by rw [run_slice_h W 34 A n cap und22 .i64 i (by omega) (by omega), elem22, size5]; simp only [Result.andThen_ok, sliced, Int.toNat_natCast, Nat.sub_zero], fun W xs h hn => ?_⟩
  have hl : 0 < xs.length := by simp at hn; omega
  obtain ⟨ad, rfl, hc⟩ := h hl
  refine ⟨ad, by split <;> simp [add_zero'], fun j hj => ?_⟩
  rw [hc j (by simp at hj; omega)]
  simp
/-- 'b[i:]'. -/
theorem cut_from (A : Option Addr) (n cap i : Nat) (x : Int) (hx : x = i) (hi : i ≤ n) (hn : n ≤ cap) : ∃ A' c', (∀ W, (Instr.slice 34 (.slice A n cap) (some (.int .i64 x)) none none).run Try.prog W = .ok (.slice A' (n - i) c') W) ∧
    ∀ (W : World) (xs : List Value), xs.length = n → Lies W A xs → Lies W A' (xs.drop i) := by
  subst hx
  refine ⟨if cap = i then A else A.map (·.add (i * 1)), cap - i, fun W => by rw [run_slice_l W 34 A n cap und22 .i64 i (by omega) (by omega), elem22, size5]; simp only [Result.andThen_ok, sliced, Int.toNat_natCast], fun W xs hxn h hn => ?_⟩
  have hl : i < xs.length := by simp at hn; omega
  obtain ⟨ad, rfl, hc⟩ := h (by omega)
  refine ⟨ad.add i, by rw [if_neg (by omega)]; simp, fun j hj => ?_⟩
  rw [add_add, hc (i + j) (by simp at hj; omega)]
  simp
end Go.Proofs.Ytacognejefeboaa
