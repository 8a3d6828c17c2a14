/-
  What the examples of the statements of layer 2 come to.
-/
import Derived.Test.YtnlmbbhbpbbkaaaRef
namespace Go.Proofs.Ytnlmbbhbpbbkaaa
open Go.ChangeShapes Go.WideShapes Go.ChangeAt Go.RowKit
set_option linter.unusedVariables false

theorem own_lit (W : World) (l : List UInt8) : Own (W.alloc (.cells (u8s l).toArray 5)) W.heap.size l := by
  refine ⟨fun j hj => ?_, fun j hj => ?_⟩
  · rw [World.cell?_alloc_mark]
    simp [u8s, hj]
  · rw [World.frozen?_alloc_mark]
    simp
theorem lies_one (W : World) (n : Nat) : Lies (W.alloc (.cells #[.int .u64 (n : Int)] 23)) (some ⟨W.heap.size, 0, none⟩) (u64s [n]) := fun _ => ⟨_, rfl, fun j hj => by
  obtain rfl : j = 0 := by simp [u64s] at hj; omega
  show (W.alloc _).cell? ⟨W.heap.size, 0, none⟩ = _
  rw [World.cell?_alloc_mark]
  rfl⟩

theorem ex_put (g : Nat) (w : World) (h : Own w g [0, 0, 0]) : Calls Try.prog 13 #[.slice (some ⟨g, 0, none⟩) 3 3, .int .i64 1, .int .i64 2, .int .u64 258] w fun e w' => e = .returned (.bool true) ∧ Own w' g [0, 2, 1] ∧ w.grownBy w' (some g) :=
  put_at g 3 3 [0, 0, 0] 1 2 258 1 2 258 rfl rfl rfl rfl (by omega) (by omega) (by simp) (by simp) w h
theorem ex_get (g : Nat) (w : World) (h : Own w g [0, 2, 1]) : Calls Try.prog 10 #[.slice (some ⟨g, 0, none⟩) 3 3, .int .i64 1, .int .i64 2] w fun e w' => e = .returned (.tuple #[.int .u64 258, .bool true]) ∧ w = w' :=
  get_yes (some ⟨g, 0, none⟩) [0, 2, 1] 3 1 2 (by omega) (by simp) (by simp) w h.lies
theorem ex_signed (w : World) : Calls Try.prog 16 #[.int .u64 255, .int .i64 1] w fun e w' => e = .returned (.int .i64 (-1)) ∧ w = w' :=
  signed_any 255 1 (by omega) w
theorem ex_bytes (w : World) (A : Option Addr) (c : Nat) (h : Lies w A (u64s [258])) :
    Calls Try.prog 18 #[.int .i64 2, .slice A 1 c] w fun e w' => ∃ A' c', e = .returned (.slice A' 2 c') ∧ Lies w' A' (u8s [2, 1]) ∧ Below w.heap.size w w' :=
  bytes_any 2 A [258] c (by simp) (by simp) w h
theorem ex_fits (w : World) : Calls Try.prog 14 #[.int .u64 255, .int .i64 1] w fun e w' => e = .returned (.bool true) ∧ w = w' :=
  fits_any 255 1 (by omega) w

set_option maxHeartbeats 800000 in
theorem awake_any (w : World) : Calls Try.prog 9 #[] w fun e w' => e = .returned (.bool true) ∧ Below w.heap.size w w' := by
  go_enter Try.func9, Try.ntmps9
  go_wp2_with fail
  refine (ex_put _ _ (own_lit w [0, 0, 0])).mono ?_
  rintro e w1 ⟨rfl, h1, g1⟩
  have b1 : Below w.heap.size w w1 := ((Below.refl _ _).alloc (Nat.le_refl _) _).trans (only_below g1 (Nat.le_refl _) (by simp))
  have l1 : w.heap.size < w1.heap.size := Nat.lt_of_lt_of_le (by simp) g1.size
  have B1 := Lib.hid b1; clear b1 g1
  go_wp2_with fail
  refine (ex_get _ _ h1).mono ?_
  rintro e w' ⟨rfl, rfl⟩
  have c1 := h1.1 1 (by simp)
  have c2 := h1.1 2 (by simp)
  simp at c1 c2
  have H1 := Lib.hid h1; clear h1
  go_wp2_with fail
  refine (ex_signed _).mono ?_
  rintro e w' ⟨rfl, rfl⟩
  go_wp2_with fail
  refine (ex_bytes _ _ _ (lies_one w1 258)).mono ?_
  rintro e w2 ⟨A', c', rfl, hl, hb⟩
  have hcv := conv_str w2 A' [2, 1] c' hl
  simp only [List.length_cons, List.length_nil] at hcv
  have B2 := Lib.hid (B1.out.trans (((Below.refl _ _).alloc (Nat.le_refl _) _).trans (hb.mono (by simp))  |>.mono (Nat.le_of_lt l1))); clear hb hl B1 c1 c2
  go_wp2_with fail
  refine (ex_fits _).mono ?_
  rintro e w' ⟨rfl, rfl⟩
  go_wp2
  go_ret
  exact ⟨rfl, B2.out⟩

/-! What the laws ask for beside the contracts. -/
/-- The number that is got, or 0. -/
def getOf (l : List UInt8) (x y : Int) : Nat := if M.has l.length x y = true then M.num (M.seg l x.toNat y.toNat) else 0
theorem get_of (A : Option Addr) (z c : Nat) (l : List UInt8) (x y : Int) (ez : z = l.length) (hz : l.length ≤ 140737488355328) (hx : -9223372036854775808 ≤ x ∧ x ≤ 9223372036854775807) (w : World) (hl : Lies w A (u8s l)) :
    Calls Try.prog 10 #[.slice A z c, .int .i64 x, .int .i64 y] w fun e w' => e = .returned (.tuple #[.int .u64 (getOf l x y : Nat), .bool (M.has l.length x y)]) ∧ w = w' := by
  subst ez
  exact get_any A l c x y hz hx w hl
theorem rGet_of (l : List UInt8) (x y : Int) (hz : l.length ≤ 140737488355328) (hx : -9223372036854775808 ≤ x ∧ x ≤ 9223372036854775807) (w : World) :
    Calls Try.prog 11 #[.string ⟨l.toArray⟩, .int .i64 x, .int .i64 y] w fun e w' => e = .returned (.tuple #[.int .u64 (getOf l x y : Nat), .bool (M.has l.length x y)]) ∧ w = w' := rGet_any l x y hz hx w
theorem putOf_length (l : List UInt8) (x y : Int) (n : Nat) : (putOf l x y n).length = l.length := by
  unfold putOf
  split
  · next h =>
    obtain ⟨a, k, rfl, rfl, hk, hak⟩ := M.has_cases h
    exact M.put_length l a k n hak
  · rfl
theorem conv_at (W : World) (A : Option Addr) (z : Nat) (l : List UInt8) (c : Nat) (ez : z = l.length) (h : Lies W A (u8s l)) : (convert 22 9 (.slice A z c)).run Try.prog W = .ok (.string ⟨l.toArray⟩) W := by
  subst ez
  exact conv_str W A l c h
/-- '[]byte(s)': a new row of one's own. -/
theorem to_bytes (W : World) (l : List UInt8) : ∃ c W', (convert 9 22 (.string ⟨l.toArray⟩)).run Try.prog W = .ok (.slice (some ⟨W.heap.size, 0, none⟩) l.length c) W' ∧ Own W' W.heap.size l ∧ Below W.heap.size W W' ∧ W.heap.size < W'.heap.size := by
  have hs : (ByteArray.mk l.toArray).size = l.length := by simp [ByteArray.size]
  refine ⟨_, _, by rw [run_bytes_of_string W 9 22 5 _ Try.underlying9 Try.underlying22 Try.underlying5, hs], ⟨fun j hj => ?_, fun j hj => ?_⟩, (Below.refl _ _).drew.alloc (Nat.le_refl _) _, by show W.heap.size < (World.alloc _ _).heap.size; simp⟩
  · show (World.alloc W.drew _).cell? ⟨W.drew.heap.size, j, none⟩ = _
    rw [World.cell?_alloc_mark, bytesRow_at _ _ _ (by simpa using hj)]
    simp
  · show (World.alloc W.drew _).frozen? ⟨W.drew.heap.size, j, none⟩ = _
    rw [World.frozen?_alloc_mark]
    have : j < (bytesRow (ByteArray.mk l.toArray) (grownCap W l.length 0 5)).size := by simp [bytesRow]; omega
    simp only [Bool.and_eq_false_imp, decide_eq_true_eq, decide_eq_false_iff_not]
    omega

/-- What the walk is told of a slice of integers that came in. -/
def IsRow (k : IntKind) (w : World) (a : Option Addr) (len cap : Nat) (zs : List Int) : Prop :=
  (a = none ∧ len = 0 ∧ cap = 0 ∧ zs = []) ∨
  ∃ x, a = some x ∧ len ≤ cap ∧ cap ≤ maxLen ∧ zs.length = cap ∧ (∀ i, i < zs.length → w.cell? (x.add i) = some (.int k (zs.getD i 0))) ∧ ∀ n ∈ zs, (Lit.int k n).wf = true
theorem row_u8 {w : World} {a : Option Addr} {len cap : Nat} {zs : List Int} (h : IsRow .u8 w a len cap zs) : ∃ l : List UInt8, len = l.length ∧ Lies w a (u8s l) := by
  rcases h with ⟨rfl, rfl, rfl, rfl⟩ | ⟨x, rfl, hl, hm, hz, hc, hw⟩
  · exact ⟨[], rfl, Lies.nil⟩
  · refine ⟨(zs.take len).map fun n => UInt8.ofNat n.toNat, by simp; omega, fun _ => ⟨x, rfl, fun j hj => ?_⟩⟩
    have hj' : j < len := by simp [u8s] at hj; omega
    have hjz : j < zs.length := by omega
    rw [hc j hjz]
    obtain ⟨n, hn, e⟩ := u8_nat (hw zs[j] (List.getElem_mem _))
    simp [u8s, List.getD, List.getElem?_eq_getElem hjz, e]
    omega
theorem row_u64 {w : World} {a : Option Addr} {len cap : Nat} {zs : List Int} (h : IsRow .u64 w a len cap zs) : ∃ l : List Nat, len = l.length ∧ Lies w a (u64s l) ∧ ∀ n ∈ l, n < 18446744073709551616 := by
  rcases h with ⟨rfl, rfl, rfl, rfl⟩ | ⟨x, rfl, hl, hm, hz, hc, hw⟩
  · exact ⟨[], rfl, Lies.nil, by simp⟩
  · refine ⟨(zs.take len).map Int.toNat, by simp; omega, fun _ => ⟨x, rfl, fun j hj => ?_⟩, fun n hn => ?_⟩
    · have hj' : j < len := by simp [u64s] at hj; omega
      have hjz : j < zs.length := by omega
      rw [hc j hjz]
      obtain ⟨n, hn, e⟩ := u64_nat (hw zs[j] (List.getElem_mem _))
      simp [u64s, List.getD, List.getElem?_eq_getElem hjz, e]
    · simp only [List.mem_map] at hn
      obtain ⟨z, hz1, rfl⟩ := hn
      obtain ⟨n, hn, e⟩ := u64_nat (hw z (List.mem_of_mem_take hz1))
      omega
theorem i64_range {a : Int} (h : (Lit.int .i64 a).wf = true) : -9223372036854775808 ≤ a ∧ a ≤ 9223372036854775807 := by
  have := bounds_i64 h
  omega
end Go.Proofs.Ytnlmbbhbpbbkaaa
