/-
  More plain mathematics of layer 1: what is aligned, how many digits, how many pages. No program in sight.
-/
import Derived.Test.YtmboibipabkhaaaGreatKxK0
import Derived.Test.YtmboibipabkhaaaGreatKxK1
namespace Go.Proofs.YtmboibipabkhaaaGreat.M
end Go.Proofs.YtmboibipabkhaaaGreat.M
namespace Go.Proofs.YtmboibipabkhaaaGreat.M
def pg (c : Int) : Int := if c = 0 then 1 else if c = 1 then 2 else if c = 2 then 4 else if c = 3 then 8 else if c = 4 then 16 else if c = 5 then 32 else if c = 6 then 64 else 0
def cls (p : Int) : Int := if p < 1 then -1 else if p ≤ 1 then 0 else if p ≤ 2 then 1 else if p ≤ 4 then 2 else if p ≤ 8 then 3 else if p ≤ 16 then 4 else if p ≤ 32 then 5 else if p ≤ 64 then 6 else -1
theorem pg_out (c : Int) (h : c < 0 ∨ 7 ≤ c) : pg c = 0 := by unfold pg; repeat' split <;> omega
theorem cls_eq (p : Int) (k : Nat) (hk : k < 7) (h1 : 1 ≤ p) (h2 : p ≤ pg k) (h3 : k = 0 ∨ pg ((k : Int) - 1) < p) : cls p = k := by
 rcases (by omega : k = 0 ∨ k = 1 ∨ k = 2 ∨ k = 3 ∨ k = 4 ∨ k = 5 ∨ k = 6) with rfl | rfl | rfl | rfl | rfl | rfl | rfl <;> simp [pg] at h2 h3 <;> unfold cls <;> repeat' split <;> omega
theorem cls_none (p : Int) (h : 64 < p) : cls p = -1 := by unfold cls; repeat' split <;> omega
theorem cls_low (p : Int) (h : p < 1) : cls p = -1 := by unfold cls; rw [if_pos h]
theorem pg_le (c : Int) : 0 ≤ pg c ∧ pg c ≤ 64 := by unfold pg; repeat' split <;> omega
theorem cls_some (p : Int) (h1 : 1 ≤ p) (h2 : p ≤ 64) : 0 ≤ cls p ∧ cls p < 7 ∧ p ≤ pg (cls p) ∧ pg (cls p) < 2 * p ∧ (cls p = 0 ∨ pg (cls p - 1) < p) ∧ cls (pg (cls p)) = cls p := by
 rcases (by omega : p = 1 ∨ p = 2 ∨ (2 < p ∧ p ≤ 4) ∨ (4 < p ∧ p ≤ 8) ∨ (8 < p ∧ p ≤ 16) ∨ (16 < p ∧ p ≤ 32) ∨ (32 < p ∧ p ≤ 64)) with h | h | h | h | h | h | h
 ·subst h; decide
 ·subst h; decide
 ·have e : cls p = 2 := by unfold cls; repeat' split <;> omega
  rw [e]; simp [pg]; exact ⟨by omega, by omega, by omega, by decide⟩
 ·have e : cls p = 3 := by unfold cls; repeat' split <;> omega
  rw [e]; simp [pg]; exact ⟨by omega, by omega, by omega, by decide⟩
 ·have e : cls p = 4 := by unfold cls; repeat' split <;> omega
  rw [e]; simp [pg]; exact ⟨by omega, by omega, by omega, by decide⟩
 ·have e : cls p = 5 := by unfold cls; repeat' split <;> omega
  rw [e]; simp [pg]; exact ⟨by omega, by omega, by omega, by decide⟩
 ·have e : cls p = 6 := by unfold cls; repeat' split <;> omega
  rw [e]; simp [pg]; exact ⟨by omega, by omega, by omega, by decide⟩
theorem pg_pow (c : Nat) (h : c < 7) : pg c = ((2 ^ c : Nat) : Int) := by
 rcases (by omega : c = 0 ∨ c = 1 ∨ c = 2 ∨ c = 3 ∨ c = 4 ∨ c = 5 ∨ c = 6) with rfl | rfl | rfl | rfl | rfl | rfl | rfl <;> rfl
end Go.Proofs.YtmboibipabkhaaaGreat.M
namespace Go.Proofs.YtmboibipabkhaaaGreat.M
abbrev Ky := Int → List Int
def empty : Ky := fun _ => []
def upd (f : Ky) (c : Int) (l : List Int) : Ky := fun d => if d = c then l else f d
structure Good (f : Ky) : Prop where
 out : ∀ c, (c < 0 ∨ 7 ≤ c) → f c = []
 four : ∀ c, (f c).length ≤ 4
def pushB (f : Ky) (c p : Int) : Bool := decide (0 ≤ c) && (decide (c < 7) && (decide (0 ≤ p) && decide ((f c).length < 4)))
def pushF (f : Ky) (c p : Int) : Ky := if pushB f c p = true then upd f c (f c ++ [p]) else f
def popB (f : Ky) (c : Int) : Bool := decide (0 < (f c).length)
def popV (f : Ky) (c : Int) : Int := (f c).getD ((f c).length - 1) 0
def popF (f : Ky) (c : Int) : Ky := upd f c (f c).dropLast
def sumTo (f : Ky) : Nat → Int
 | 0 => 0
 | k + 1 => sumTo f k + ((f k).length : Int) * pg k
def sum (f : Ky) : Int := sumTo f 7
def rows (f : Ky) (k : Nat) : List R := (f k).map fun p => ⟨p, pg k⟩
def allTo (f : Ky) : Nat → List R
 | 0 => []
 | k + 1 => allTo f k ++ rows f k
def all (f : Ky) : List R := allTo f 7
theorem upd_self (f : Ky) (c : Int) (l : List Int) : upd f c l c = l := by simp [upd]
theorem upd_ne (f : Ky) (c d : Int) (l : List Int) (h : d ≠ c) : upd f c l d = f d := by simp [upd, h]
theorem upd_same (f : Ky) (c : Int) : upd f c (f c) = f := by
 funext d
 unfold upd
 split
 ·next h => rw [h]
 ·rfl
theorem Good.empty : Good empty := ⟨fun _ _ => rfl, fun _ => by simp [M.empty]⟩
theorem pushB_iff (f : Ky) (c p : Int) : pushB f c p = true ↔ 0 ≤ c ∧ c < 7 ∧ 0 ≤ p ∧ (f c).length < 4 := by simp [pushB]
theorem pushB_no (f : Ky) (c p : Int) (h : ¬ (0 ≤ c ∧ c < 7 ∧ 0 ≤ p ∧ (f c).length < 4)) : pushB f c p = false := by
 rw [← Bool.not_eq_true, pushB_iff]; exact h
theorem pushF_no (f : Ky) (c p : Int) (h : pushB f c p = false) : pushF f c p = f := by unfold pushF; rw [h]; simp
theorem pushF_yes (f : Ky) (c p : Int) (h : pushB f c p = true) : pushF f c p = upd f c (f c ++ [p]) := by unfold pushF; rw [h]; simp
theorem Good.push {f : Ky} (h : Good f) (c p : Int) : Good (pushF f c p) := by
 unfold pushF
 split
 ·next hb =>
  obtain ⟨h1, h2, h3, h4⟩ := (pushB_iff _ _ _).1 hb
  refine ⟨fun d hd => ?_, fun d => ?_⟩
  ·rw [upd_ne _ _ _ _ (by omega)]; exact h.out d hd
  ·by_cases e : d = c
   ·subst e; rw [upd_self]; simp; omega
   ·rw [upd_ne _ _ _ _ e]; exact h.four d
 ·exact h
theorem Good.pop {f : Ky} (h : Good f) (c : Int) : Good (popF f c) := by
 refine ⟨fun d hd => ?_, fun d => ?_⟩
 ·unfold popF upd
  split
  ·next e => rw [h.out c (by omega)]; rfl
  ·exact h.out d hd
 ·by_cases e : d = c
  ·subst e; unfold popF; rw [upd_self]; have := h.four d; simp; omega
  ·unfold popF; rw [upd_ne _ _ _ _ e]; exact h.four d
theorem popF_no (f : Ky) (c : Int) (h : popB f c = false) : popF f c = f := by
 have : f c = [] := by
  unfold popB at h
  simp at h
  exact h
 unfold popF
 rw [this]
 show upd f c [] = f
 rw [← this, upd_same]
theorem popV_no (f : Ky) (c : Int) (h : popB f c = false) : popV f c = 0 := by
 have : f c = [] := by
  unfold popB at h
  simp at h
  exact h
 unfold popV
 rw [this]
 rfl
theorem sumTo_between {f : Ky} (h : Good f) : ∀ k, k ≤ 7 → 0 ≤ sumTo f k ∧ sumTo f k ≤ 256 * k
 | 0, _ => by simp [sumTo]
 | k + 1, hk => by
  have ih := sumTo_between h k (by omega)
  have h4 := h.four k
  have hp := pg_le k
  have h1 : 0 ≤ ((f k).length : Int) * pg k := Int.mul_nonneg (by omega) hp.1
  have h2 : ((f k).length : Int) * pg k ≤ 4 * 64 := Int.mul_le_mul (by omega) hp.2 hp.1 (by omega)
  simp only [sumTo]
  omega
theorem len_mul {f : Ky} (h : Good f) (k : Nat) : 0 ≤ ((f k).length : Int) * pg k ∧ ((f k).length : Int) * pg k ≤ 256 := by
 have h4 := h.four k
 have hp := pg_le k
 exact ⟨Int.mul_nonneg (by omega) hp.1, by have := Int.mul_le_mul (show ((f k).length : Int) ≤ 4 by omega) hp.2 hp.1 (by omega); omega⟩
theorem rows_length (f : Ky) (k : Nat) : (rows f k).length = (f k).length := by simp [rows]
theorem allTo_length {f : Ky} (h : Good f) : ∀ k, (allTo f k).length ≤ 4 * k
 | 0 => by simp [allTo]
 | k + 1 => by
  have ih := allTo_length h k
  have h4 := h.four k
  simp only [allTo, List.length_append, rows_length]
  omega
theorem pg_pos (k : Nat) (h : k < 7) : 1 ≤ pg k := by
 rcases (by omega : k = 0 ∨ k = 1 ∨ k = 2 ∨ k = 3 ∨ k = 4 ∨ k = 5 ∨ k = 6) with rfl | rfl | rfl | rfl | rfl | rfl | rfl <;> decide
theorem all_empty : all empty = [] := rfl
end Go.Proofs.YtmboibipabkhaaaGreat.M
namespace Go.Proofs.YtmboibipabkhaaaGreat
open Go.ChangeShapes Go.WideShapes Go.ChangeAt Go.RowKit
set_option linter.unusedVariables false
end Go.Proofs.YtmboibipabkhaaaGreat
namespace Go.Proofs.YtmboibipabkhaaaGreat
open Go.ChangeShapes Go.WideShapes Go.ChangeAt Go.RowKit
set_option linter.unusedVariables false
theorem cpages_any (c : Int) (w : World) :
  Calls Tryz.prog 34 #[.int .i64 c] w fun e w' => e = .returned (.int .i64 (M.pg c)) ∧ w = w' := by
 by_cases h1 : c < 0
 ·go_enter Tryz.func34, Tryz.ntmps34
  go_wp2
  go_ret
  exact ⟨ret1 (M.pg_out c (.inl h1)).symm, rfl⟩
 ·by_cases h2 : 7 ≤ c
  ·go_enter Tryz.func34, Tryz.ntmps34
   go_wp2
   go_ret
   exact ⟨ret1 (M.pg_out c (.inr h2)).symm, rfl⟩
  ·rcases (by omega : c = 0 ∨ c = 1 ∨ c = 2 ∨ c = 3 ∨ c = 4 ∨ c = 5 ∨ c = 6) with rfl | rfl | rfl | rfl | rfl | rfl | rfl
   all_goals clear h1 h2
   all_goals go_enter Tryz.func34, Tryz.ntmps34
   all_goals go_wp2
   all_goals go_ret
   all_goals exact ⟨ret1 (by decide), rfl⟩
theorem cpages_at {i : Int} (c g : Int) (ei : i = c) (eg : M.pg c = g) (w : World) :
  Calls Tryz.prog 34 #[.int .i64 i] w fun e w' => e = .returned (.int .i64 g) ∧ w = w' := by
 subst ei eg; exact cpages_any _ w
theorem class_any (p : Int) (w : World) :
  Calls Tryz.prog 33 #[.int .i64 p] w fun e w' => e = .returned (.int .i64 (M.cls p)) ∧ w = w' := by
 by_cases h1 : p < 1
 ·go_enter Tryz.func33, Tryz.ntmps33
  go_wp2
  go_ret
  exact ⟨ret1 (M.cls_low p h1).symm, rfl⟩
 ·go_enter Tryz.func33, Tryz.ntmps33
  go_wp2_with fail
  go_loop [3, 6] (fun _ i => ∃ k : Nat, k ≤ 7 ∧ (k = 0 ∨ M.pg ((k : Int) - 1) < p) ∧ i = .int .i64 k) (fun _ i => 7 - (intOf i).toNat)
  case atStart => exact ⟨0, by omega, .inl rfl, rfl⟩
  case round =>
   obtain ⟨k, hk, hb, rfl⟩ := hrel
   have HB := Lib.hid hb; clear hb
   by_cases hlt : k < 7
   ·have G : Hid (M.pg (k : Int) = M.pg (k : Int)) := Lib.hid rfl
    revert G
    generalize hg : M.pg (k : Int) = g
    intro G
    have HG := Lib.hid hg; clear hg G
    by_cases hz : p ≤ g
    ·go_wp2_with fail
     refine (cpages_at (k : Int) g rfl HG.out _).mono ?_
     rintro e w' ⟨rfl, rfl⟩
     go_wp2
     go_ret
     exact ⟨ret1 (M.cls_eq p k hlt (by omega) (by rw [HG.out]; exact hz) HB.out).symm, rfl⟩
    ·go_wp2_with fail
     refine (cpages_at (k : Int) g rfl HG.out _).mono ?_
     rintro e w' ⟨rfl, rfl⟩
     go_wp2
     go_round
     case rel => exact ⟨k + 1, by omega, .inr (by rw [show (((k + 1 : Nat) : Int) - 1) = k by omega, HG.out]; omega), by go_num⟩
     case measure => simp [intOf]; omega
   ·have e : k = 7 := by omega
    subst e
    go_wp2
    go_ret
    have := HB.out
    simp [M.pg] at this
    exact ⟨ret1 (M.cls_none p (by omega)).symm, rfl⟩
theorem class_at {i : Int} (p g : Int) (ei : i = p) (eg : M.cls p = g) (w : World) :
  Calls Tryz.prog 33 #[.int .i64 i] w fun e w' => e = .returned (.int .i64 g) ∧ w = w' := by
 subst ei eg; exact class_any _ w
end Go.Proofs.YtmboibipabkhaaaGreat
namespace Go.Proofs.YtmboibipabkhaaaGreat
open Go.ChangeShapes Go.WideShapes Go.ChangeAt Go.RowKit Go.Deep
set_option linter.unusedVariables false
set_option maxRecDepth 20000
def caval (f : M.Ky) (j : Nat) : Int := if j % 2 = 0 then (f (j / 8 : Nat)).getD (j % 8 / 2) 0 else if j % 8 / 2 < (f (j / 8 : Nat)).length then M.pg (j / 8 : Nat) else 0
def cacl (f : M.Ky) : List Value := (List.range 56).map fun j => .int .i64 (caval f j)
theorem cacl_length (f : M.Ky) : (cacl f).length = 56 := by simp [cacl]
theorem cacl_at (f : M.Ky) (j : Nat) (h : j < 56) : (cacl f)[j]? = some (.int .i64 (caval f j)) := by simp [cacl, List.getElem?_map, List.getElem?_range h]
theorem caval0 (f : M.Ky) (k n : Nat) (hn : n < 4) : caval f (k * 8 + n * 2) = (f k).getD n 0 := by
 unfold caval
 rw [if_pos (by omega), show (k * 8 + n * 2) / 8 = k by omega, show (k * 8 + n * 2) % 8 / 2 = n by omega]
theorem caval1 (f : M.Ky) (k n : Nat) (hn : n < 4) : caval f (k * 8 + n * 2 + 1) = if n < (f k).length then M.pg k else 0 := by
 unfold caval
 rw [if_neg (by omega), show (k * 8 + n * 2 + 1) / 8 = k by omega, show (k * 8 + n * 2 + 1) % 8 / 2 = n by omega]
structure IsC (w : World) (g : Nat) (f : M.Ky) : Prop where
 good : M.Good f
 blk : w.heap[g]? = some (.cells (cacl f).toArray 111 (0, 0))
section
variable {w w' : World} {g : Nat} {f : M.Ky}
theorem IsC.cell (h : IsC w g f) (j : Nat) (hj : j < 56) : w.cell? ⟨g, j, none⟩ = some (.int .i64 (caval f j)) := by rw [cell_of_row w g j _ _ _ h.blk]; simpa using cacl_at f j hj
theorem IsC.c0 (h : IsC w g f) (k n : Nat) (hk : k < 7) (hn : n < 4) : w.cell? ⟨g, k * 8 + n * 2, none⟩ = some (.int .i64 ((f k).getD n 0)) := by rw [h.cell _ (by omega), caval0 f k n hn]
theorem IsC.c1 (h : IsC w g f) (k n : Nat) (hk : k < 7) (hn : n < 4) : w.cell? ⟨g, k * 8 + n * 2 + 1, none⟩ = some (.int .i64 (if n < (f k).length then M.pg k else 0)) := by rw [h.cell _ (by omega), caval1 f k n hn]
theorem IsC.fr (h : IsC w g f) (j : Nat) : w.frozen? ⟨g, j, none⟩ = false := by
 unfold World.frozen?
 rw [show w.heap[(⟨g, j, none⟩ : Addr).block]? = _ from h.blk]
 simp
theorem IsC.lt (h : IsC w g f) : g < w.heap.size := (Array.getElem?_eq_some_iff.1 h.blk).1
theorem IsC.keep (h : IsC w g f) (hb : w'.heap[g]? = w.heap[g]?) : IsC w' g f := ⟨h.good, hb.trans h.blk⟩
theorem IsC.below (h : IsC w g f) (hb : Below w.heap.size w w') : IsC w' g f := h.keep (hb.block g h.lt)
theorem IsC.grown (h : IsC w g f) {r : Nat} (hr : g ≠ r) (hb : w.grownBy w' (some r)) : IsC w' g f := h.keep (hb.block g h.lt (fun e => hr (by injection e)))
theorem IsC.runs (h : IsC w g f) (k : Nat) (hk : k < 7) : Runs w (some ⟨g, k * 8, none⟩) (M.rows f k) := fun _ => ⟨g, k * 8, rfl, fun i hi => by
 have hi' : i < (f k).length := by rw [M.rows_length] at hi; exact hi
 have h4 := h.good.four k
 have a := h.c0 k i hk (by omega)
 have b := h.c1 k i hk (by omega)
 rw [if_pos hi'] at b
 rw [List.getD, List.getElem?_eq_getElem hi'] at a
 refine ⟨by rw [a]; simp [M.rows], by rw [b]; simp [M.rows]⟩⟩
end
theorem arr_len : Tryz.prog.arrayLen 108 = 4 := by kernel_rfl
theorem arr_elem : Tryz.prog.elem 108 = 98 := by kernel_rfl
theorem arr_und : Tryz.prog.underlying 108 = some (.array (Tryz.prog.arrayLen 108) (Tryz.prog.elem 108)) := by rw [arr_len, arr_elem]; exact Tryz.underlying108
theorem arr_h (w : World) (a : Addr) (j : Nat) (h : j ≤ 4) : (Instr.sliceAt 108 (.pointer (some a)) none (some (.int .i64 (j : Int))) none).run Tryz.prog w = .ok (.slice (some a) j 4) w := by
 have := run_sliceAt_array_h w 108 a arr_und .i64 (j : Int) (by omega) (by rw [arr_len]; omega)
 rw [this, arr_elem]
 have hs : (sizeOf 98).run Tryz.prog w = .ok 2 w := by kernel_rfl
 rw [hs]
 simp [slicedAt, arr_len, add_zero']
set_option maxHeartbeats 1000000 in
theorem caof_in (w : World) (g : Nat) (f : M.Ky) (h : IsC w g f) (k : Nat) (hk : k < 7) :
  Calls Tryz.prog 77 #[.pointer (some ⟨g, 0, none⟩), .int .i64 (k : Int)] w fun e w' => e = .returned (.slice (some ⟨g, k * 8, none⟩) (f k).length 4) ∧ w = w' := by
 have HI := Lib.hid h
 have hp := M.pg_pos k hk
 obtain ⟨p, hpp⟩ : ∃ p, M.pg (k : Int) = p := ⟨_, rfl⟩
 rw [hpp] at hp
 have hp0 : ((p : Int) == 0) = false := by simp; omega
 have HP := Lib.hid hpp
 have h4 := h.good.four k
 obtain ⟨z, hz⟩ : ∃ z, (f k).length = z := ⟨_, rfl⟩
 rw [hz] at h4
 rw [hz]
 have HZ := Lib.hid hz
 clear h hpp hz
 go_enter Tryz.func77, Tryz.ntmps77
 go_wp2_with fail
 refine (cpages_at (k : Int) p rfl HP.out _).mono ?_
 rintro e w' ⟨rfl, rfl⟩
 go_wp2_with fail
 go_loop [5, 13] (fun _ i => ∃ j : Nat, j ≤ z ∧ i = .int .i64 j) (fun _ i => 4 - (intOf i).toNat)
 case atStart => exact ⟨0, by omega, rfl⟩
 case round =>
  obtain ⟨j, hj, rfl⟩ := hrel
  by_cases hlt : j < 4
  ·have c1 := HI.out.c1 k j hk hlt
   rw [HZ.out, HP.out] at c1
   by_cases hjz : j < z
   ·rw [if_pos hjz] at c1
    go_wp2_with fail
    go_round
    case rel => exact ⟨j + 1, by omega, by go_num⟩
    case measure => simp [intOf]; omega
   ·rw [if_neg hjz] at c1
    have e : j = z := by omega
    subst e
    have sl := arr_h w ⟨g, k * 8, none⟩ j (by omega)
    go_wp2_with fail
    go_ret
    exact ⟨rfl, rfl⟩
  ·have e : z = 4 := by omega
   subst e
   go_wp2_with fail
   go_ret
   exact ⟨rfl, rfl⟩
theorem caof_out (w : World) (P : Option Addr) (c : Int) (h : P = none ∨ c < 0 ∨ 7 ≤ c) :
  Calls Tryz.prog 77 #[.pointer P, .int .i64 c] w fun e w' => e = .returned (.slice none 0 0) ∧ w = w' := by
 cases P with
 | none =>
  clear h
  go_enter Tryz.func77, Tryz.ntmps77
  go_wp2_with fail
  go_ret
  exact ⟨rfl, rfl⟩
 | some a =>
  have hp := Lib.hid (M.pg_out c (by simpa using h))
  clear h
  go_enter Tryz.func77, Tryz.ntmps77
  go_wp2_with fail
  refine (cpages_at c 0 rfl hp.out _).mono ?_
  rintro e w' ⟨rfl, rfl⟩
  go_wp2_with fail
  go_ret
  exact ⟨rfl, rfl⟩
def ofA (g : Nat) (f : M.Ky) (c : Int) : Option Addr := if 0 ≤ c ∧ c < 7 then some ⟨g, c.toNat * 8, none⟩ else none
def ofC (c : Int) : Nat := if 0 ≤ c ∧ c < 7 then 4 else 0
theorem caof_any (w : World) (g : Nat) (f : M.Ky) (h : IsC w g f) (c : Int) :
  Calls Tryz.prog 77 #[.pointer (some ⟨g, 0, none⟩), .int .i64 c] w fun e w' => e = .returned (.slice (ofA g f c) (f c).length (ofC c)) ∧ w = w' := by
 unfold ofA ofC
 by_cases hc : 0 ≤ c ∧ c < 7
 ·rw [if_pos hc, if_pos hc]
  obtain ⟨k, rfl⟩ : ∃ k : Nat, c = k := ⟨c.toNat, by omega⟩
  exact caof_in w g f h k (by omega)
 ·rw [if_neg hc, if_neg hc, h.good.out c (by omega)]
  exact caof_out w _ c (by omega)
theorem calen_any (w : World) (g : Nat) (f : M.Ky) (h : IsC w g f) (c : Int) :
  Calls Tryz.prog 71 #[.pointer (some ⟨g, 0, none⟩), .int .i64 c] w fun e w' => e = .returned (.int .i64 ((f c).length : Int)) ∧ w = w' := by
 have H := Lib.hid h
 clear h
 go_enter Tryz.func71, Tryz.ntmps71
 go_wp2_with fail
 refine (caof_any _ g f H.out c).mono ?_
 rintro e w' ⟨rfl, rfl⟩
 go_wp2_with fail
 go_ret
 exact ⟨rfl, rfl⟩
theorem calen_nil (w : World) (c : Int) :
  Calls Tryz.prog 71 #[.pointer none, .int .i64 c] w fun e w' => e = .returned (.int .i64 0) ∧ w = w' := by
 go_enter Tryz.func71, Tryz.ntmps71
 go_wp2_with fail
 refine (caof_out _ none c (.inl rfl)).mono ?_
 rintro e w' ⟨rfl, rfl⟩
 go_wp2_with fail
 go_ret
 exact ⟨rfl, rfl⟩
theorem cacl_empty : cacl M.empty = List.replicate 56 (.int .i64 0) := by
 apply List.ext_getElem?
 intro j
 by_cases h : j < 56
 ·rw [cacl_at _ j h, List.getElem?_replicate, if_pos h]
  unfold caval
  simp [M.empty]
 ·rw [List.getElem?_eq_none (by rw [cacl_length]; omega), List.getElem?_eq_none (by simp; omega)]
theorem IsC.new (w : World) : IsC (w.alloc (.cells (List.replicate 56 (Value.int .i64 0)).toArray 111)) w.heap.size M.empty := by
 refine ⟨M.Good.empty, ?_⟩
 rw [cacl_empty]
 unfold World.alloc
 simp
theorem IsC.clear {w : World} {g : Nat} {f : M.Ky} (h : IsC w g f) : IsC (w.setRow g (List.replicate 56 (Value.int .i64 0)).toArray) g M.empty := by
 refine ⟨M.Good.empty, ?_⟩
 rw [cacl_empty]
 exact setRow_heap w g _ _ _ _ h.blk
theorem IsC.set {w : World} {g : Nat} {f : M.Ky} (h : IsC w g f) (k n : Nat) (hk : k < 7) (hn : n < 4) (v q : Int) (f' : M.Ky) (hg : M.Good f') (hd : ∀ d : Int, d ≠ k → f' d = f d)
  (h0 : ∀ m, m < 4 → (f' k).getD m 0 = if m = n then v else (f k).getD m 0)
  (h1 : ∀ m, m < 4 → (if m < (f' k).length then M.pg k else 0) = if m = n then q else if m < (f k).length then M.pg k else 0) :
  IsC ((w.setCell ⟨g, k * 8 + n * 2, none⟩ (.int .i64 v)).setCell ⟨g, k * 8 + n * 2 + 1, none⟩ (.int .i64 q)) g f' := by
 refine ⟨hg, ?_⟩
 have e1 := setCell_eq_setRow w g (k * 8 + n * 2) _ _ _ (.int .i64 v) h.blk
 rw [e1]
 have b1 := setRow_heap w g _ ((cacl f).toArray.setIfInBounds (k * 8 + n * 2) (.int .i64 v)) _ _ h.blk
 have e2 := setCell_eq_setRow _ g (k * 8 + n * 2 + 1) _ _ _ (.int .i64 q) b1
 rw [e2]
 rw [setRow_heap _ g _ _ _ _ b1]
 congr 2
 apply Array.ext'
 simp only [List.setIfInBounds_toArray, List.toList_toArray]
 apply List.ext_getElem?
 intro j
 by_cases hj : j < 56
 ·rw [cacl_at f' j hj, List.getElem?_set, List.getElem?_set]
  simp only [List.length_set, cacl_length]
  have hv : caval f' j = if k * 8 + n * 2 + 1 = j then q else if k * 8 + n * 2 = j then v else caval f j := by
   obtain ⟨k', m, b, hm, rfl, hb⟩ : ∃ k' m b, m < 4 ∧ j = k' * 8 + m * 2 + b ∧ (b = 0 ∨ b = 1) := ⟨j / 8, j % 8 / 2, j % 2, by omega, by omega, by omega⟩
   by_cases ek : k' = k
   ·subst ek
    rcases hb with rfl | rfl
    ·rw [Nat.add_zero, caval0 f' _ _ hm, caval0 f _ _ hm, h0 m hm]
     by_cases em : m = n
     ·rw [if_pos em, if_neg (by omega), if_pos (by omega)]
     ·rw [if_neg em, if_neg (by omega), if_neg (by omega)]
    ·rw [caval1 f' _ _ hm, caval1 f _ _ hm, h1 m hm]
     by_cases em : m = n
     ·rw [if_pos em, if_pos (by omega)]
     ·rw [if_neg em, if_neg (show ¬ k' * 8 + n * 2 + 1 = k' * 8 + m * 2 + 1 by omega), if_neg (show ¬ k' * 8 + n * 2 = k' * 8 + m * 2 + 1 by omega)]
   ·have ef := hd (k' : Int) (by omega)
    rw [if_neg (by omega), if_neg (by omega)]
    rcases hb with rfl | rfl
    ·rw [Nat.add_zero, caval0 f' _ _ hm, caval0 f _ _ hm, ef]
    ·rw [caval1 f' _ _ hm, caval1 f _ _ hm, ef]
  rw [hv]
  by_cases e1 : k * 8 + n * 2 + 1 = j
  ·rw [if_pos e1, if_pos e1, if_pos (by omega)]
  ·rw [if_neg e1, if_neg e1]
   by_cases e2 : k * 8 + n * 2 = j
   ·rw [if_pos e2, if_pos e2, if_pos (by omega)]
   ·rw [if_neg e2, if_neg e2, cacl_at f j hj]
 ·rw [List.getElem?_eq_none (by simp [cacl_length]; omega), List.getElem?_eq_none (by simp [cacl_length]; omega)]
theorem IsC.push {w : World} {g : Nat} {f : M.Ky} (h : IsC w g f) (k n : Nat) (hk : k < 7) (hn : n < 4) (en : (f k).length = n) (v : Int) (hv : 0 ≤ v) :
  IsC ((w.setCell ⟨g, k * 8 + n * 2, none⟩ (.int .i64 v)).setCell ⟨g, k * 8 + n * 2 + 1, none⟩ (.int .i64 (M.pg k))) g (M.pushF f k v) := by
 have hb : M.pushB f k v = true := (M.pushB_iff _ _ _).2 ⟨by omega, by omega, hv, by omega⟩
 refine h.set k n hk hn v _ _ (h.good.push _ _) (fun d hd => ?_) (fun m hm => ?_) (fun m hm => ?_)
 ·rw [M.pushF_yes _ _ _ hb, M.upd_ne _ _ _ _ hd]
 ·rw [M.pushF_yes _ _ _ hb, M.upd_self]
  subst en
  simp only [List.getD]
  by_cases e : m = (f k).length
  ·subst e; simp
  ·rw [if_neg e]
   rcases Nat.lt_or_ge m (f k).length with hl | hl
   ·rw [List.getElem?_append_left hl]
   ·rw [List.getElem?_eq_none (by simp; omega), List.getElem?_eq_none (by omega)]
 ·rw [M.pushF_yes _ _ _ hb, M.upd_self]
  subst en
  simp only [List.length_append, List.length_cons, List.length_nil]
  by_cases e : m = (f k).length
  ·rw [if_pos (by omega), if_pos e]
  ·rw [if_neg e]
   by_cases hl : m < (f k).length
   ·rw [if_pos (by omega), if_pos hl]
   ·rw [if_neg (by omega), if_neg hl]
theorem IsC.pop {w : World} {g : Nat} {f : M.Ky} (h : IsC w g f) (k n : Nat) (hk : k < 7) (en : (f k).length = n + 1) :
  IsC ((w.setCell ⟨g, k * 8 + n * 2, none⟩ (.int .i64 0)).setCell ⟨g, k * 8 + n * 2 + 1, none⟩ (.int .i64 0)) g (M.popF f k) := by
 have h4 := h.good.four k
 refine h.set k n hk (by omega) 0 0 _ (h.good.pop _) (fun d hd => ?_) (fun m hm => ?_) (fun m hm => ?_)
 ·unfold M.popF; rw [M.upd_ne _ _ _ _ hd]
 ·unfold M.popF; rw [M.upd_self]
  simp only [List.getD]
  rw [List.getElem?_dropLast]
  by_cases e : m = n
  ·subst e; rw [if_neg (by omega)]; simp
  ·rw [if_neg e]
   by_cases hl : m < (f k).length - 1
   ·rw [if_pos hl]
   ·rw [if_neg hl, List.getElem?_eq_none (by omega)]
 ·unfold M.popF; rw [M.upd_self]
  rw [List.length_dropLast]
  by_cases e : m = n
  ·rw [if_neg (by omega), if_pos e]
  ·rw [if_neg e]
   by_cases hl : m < (f k).length
   ·rw [if_pos (by omega), if_pos hl]
   ·rw [if_neg (by omega), if_neg hl]
set_option maxHeartbeats 1000000 in
theorem canew_any (w : World) : Calls Tryz.prog 25 #[] w fun e w' => ∃ g, e = .returned (.pointer (some ⟨g, 0, none⟩)) ∧ IsC w' g M.empty ∧ Below w.heap.size w w' ∧ w.heap.size ≤ g := by
 have H := Lib.hid (IsC.new w)
 go_enter Tryz.func25, Tryz.ntmps25
 go_wp2_with fail
 go_ret
 exact ⟨w.heap.size, rfl, H.out, (Below.refl _ _).alloc (Nat.le_refl _) _, Nat.le_refl _⟩
end Go.Proofs.YtmboibipabkhaaaGreat
namespace Go.Proofs.YtmboibipabkhaaaGreat
open Go.ChangeShapes Go.WideShapes Go.ChangeAt Go.RowKit Go.Deep
set_option linter.unusedVariables false
set_option maxRecDepth 20000
theorem cagrown_two (w : World) (g a b : Nat) (u v : Value) : w.grownBy ((w.setCell ⟨g, a, none⟩ u).setCell ⟨g, b, none⟩ v) (some g) :=
 only_setCell (only_setCell ⟨rfl, rfl, rfl, Nat.le_refl _, fun _ _ _ => rfl⟩ (p := ⟨g, a, none⟩) rfl u) (p := ⟨g, b, none⟩) rfl v
theorem cagrown_refl (w : World) (g : Nat) : w.grownBy w (some g) := ⟨rfl, rfl, rfl, Nat.le_refl _, fun _ _ _ => rfl⟩
set_option maxHeartbeats 1000000 in
theorem capush_any (w : World) (g : Nat) (f : M.Ky) (h : IsC w g f) (c p : Int) :
  Calls Tryz.prog 43 #[.pointer (some ⟨g, 0, none⟩), .int .i64 c, .int .i64 p] w fun e w' => e = .returned (.bool (M.pushB f c p)) ∧ IsC w' g (M.pushF f c p) ∧ w.grownBy w' (some g) := by
 have H := Lib.hid h
 have h4 := h.good.four c
 clear h
 obtain ⟨n, hn⟩ : ∃ n, (f c).length = n := ⟨_, rfl⟩
 obtain ⟨q, hq⟩ : ∃ q, M.pg c = q := ⟨_, rfl⟩
 rw [hn] at h4
 by_cases hb : 0 ≤ c ∧ c < 7 ∧ 0 ≤ p ∧ n < 4
 ·obtain ⟨k, rfl⟩ : ∃ k : Nat, c = k := ⟨c.toNat, by omega⟩
  obtain ⟨b1, b2, b3, b4⟩ := hb
  have hk : k < 7 := by omega
  have hp := M.pg_pos k hk
  rw [hq] at hp
  have hq0 : (q == 0) = false := by simp; omega
  have hn4 : ((n : Int) == 4) = false := by simp; omega
  have BB := Lib.hid ((M.pushB_iff f k p).2 ⟨b1, b2, b3, by omega⟩)
  have NEW := Lib.hid (H.out.push k n hk b4 hn p b3)
  have c0 := H.out.c0 k n hk b4
  have c1 := H.out.c1 k n hk b4
  rw [hn, if_neg (by omega)] at c1
  rw [List.getD, List.getElem?_eq_none (by omega)] at c0
  simp only [Option.getD_none] at c0
  have f0 := H.out.fr (k * 8 + n * 2)
  have f1 := H.out.fr (k * 8 + n * 2 + 1)
  rw [hq] at NEW
  have HQ := Lib.hid hq
  have HN := Lib.hid hn
  clear hq hn h4
  go_enter Tryz.func43, Tryz.ntmps43
  go_wp2_with fail
  refine (cpages_at (k : Int) q rfl HQ.out _).mono ?_
  rintro e w' ⟨rfl, rfl⟩
  go_wp2_with fail
  refine (calen_any _ g f H.out k).mono ?_
  rintro e w' ⟨rfl, rfl⟩
  rw [HN.out]
  go_wp2_with fail
  go_ret
  exact ⟨retB BB.out.symm, NEW.out, cagrown_two _ _ _ _ _ _⟩
 ·have BB := Lib.hid (M.pushB_no f c p (by rw [hn]; exact hb))
  have FF := Lib.hid (M.pushF_no f c p BB.out)
  have HQ := Lib.hid hq
  have HN := Lib.hid hn
  rw [BB.out, FF.out]
  by_cases hc : 0 ≤ c ∧ c < 7
  ·have hp : 1 ≤ q := by
    have := M.pg_pos c.toNat (by omega)
    rw [show ((c.toNat : Nat) : Int) = c by omega, hq] at this
    exact this
   have hq0 : (q == 0) = false := by simp; omega
   by_cases hp0 : p < 0
   ·clear hq hn h4 hb hc hp
    go_enter Tryz.func43, Tryz.ntmps43
    go_wp2_with fail
    refine (cpages_at c q rfl HQ.out _).mono ?_
    rintro e w' ⟨rfl, rfl⟩
    go_wp2_with fail
    refine (calen_any _ g f H.out c).mono ?_
    rintro e w' ⟨rfl, rfl⟩
    rw [HN.out]
    go_wp2_with fail
    go_ret
    exact ⟨rfl, H.out, cagrown_refl _ _⟩
   ·have e4 : n = 4 := by omega
    subst e4
    clear hq hn h4 hb hc hp
    go_enter Tryz.func43, Tryz.ntmps43
    go_wp2_with fail
    refine (cpages_at c q rfl HQ.out _).mono ?_
    rintro e w' ⟨rfl, rfl⟩
    go_wp2_with fail
    refine (calen_any _ g f H.out c).mono ?_
    rintro e w' ⟨rfl, rfl⟩
    rw [HN.out]
    go_wp2_with fail
    go_ret
    exact ⟨rfl, H.out, cagrown_refl _ _⟩
  ·have e0 : q = 0 := by rw [← hq]; exact M.pg_out c (by omega)
   subst e0
   clear hq hn h4 hb hc
   go_enter Tryz.func43, Tryz.ntmps43
   go_wp2_with fail
   refine (cpages_at c 0 rfl HQ.out _).mono ?_
   rintro e w' ⟨rfl, rfl⟩
   go_wp2_with fail
   refine (calen_any _ g f H.out c).mono ?_
   rintro e w' ⟨rfl, rfl⟩
   rw [HN.out]
   go_wp2_with fail
   go_ret
   exact ⟨rfl, H.out, cagrown_refl _ _⟩
set_option maxHeartbeats 1000000 in
theorem capop_any (w : World) (g : Nat) (f : M.Ky) (h : IsC w g f) (c : Int) :
  Calls Tryz.prog 57 #[.pointer (some ⟨g, 0, none⟩), .int .i64 c] w fun e w' => e = .returned (.tuple #[.int .i64 (M.popV f c), .bool (M.popB f c)]) ∧ IsC w' g (M.popF f c) ∧ w.grownBy w' (some g) := by
 have H := Lib.hid h
 obtain ⟨n, hn⟩ : ∃ n, (f c).length = n := ⟨_, rfl⟩
 rcases Nat.eq_zero_or_pos n with h0 | h0
 ·subst h0
  have hb : M.popB f c = false := by unfold M.popB; rw [hn]; simp
  rw [M.popV_no f c hb, M.popF_no f c hb, hb]
  have HN := Lib.hid hn
  clear h hn hb
  go_enter Tryz.func57, Tryz.ntmps57
  go_wp2_with fail
  refine (caof_any _ g f H.out c).mono ?_
  rintro e w' ⟨rfl, rfl⟩
  rw [HN.out]
  go_wp2_with fail
  go_ret2
  exact ⟨rfl, H.out, cagrown_refl _ _⟩
 ·obtain ⟨m, rfl⟩ : ∃ m, n = m + 1 := ⟨n - 1, by omega⟩
  have hin : 0 ≤ c ∧ c < 7 := by
   apply Decidable.byContradiction
   intro hc
   rw [h.good.out c (by omega)] at hn
   simp at hn
  obtain ⟨k, rfl⟩ : ∃ k : Nat, c = k := ⟨c.toNat, by omega⟩
  have hk : k < 7 := by omega
  have h4 := h.good.four k
  have hm : m < 4 := by omega
  have hb : M.popB f k = true := by unfold M.popB; rw [hn]; simp
  have hv : M.popV f k = (f k).getD m 0 := by unfold M.popV; rw [hn]; rfl
  have c0 := h.c0 k m hk hm
  have c1 := h.c1 k m hk hm
  rw [← hv] at c0
  obtain ⟨q, hq⟩ : ∃ q, (if m < (f k).length then M.pg k else 0) = q := ⟨_, rfl⟩
  rw [hq] at c1
  obtain ⟨v, hv'⟩ : ∃ v, M.popV f k = v := ⟨_, rfl⟩
  rw [hv'] at c0
  rw [hv', hb]
  have NEW := Lib.hid (h.pop k m hk hn)
  have f0 := h.fr (k * 8 + m * 2)
  have f1 := h.fr (k * 8 + m * 2 + 1)
  have HN := Lib.hid hn
  clear h hn hb hv hv' hq h4 hin h0
  go_enter Tryz.func57, Tryz.ntmps57
  go_wp2_with fail
  refine (caof_in _ g f H.out k hk).mono ?_
  rintro e w' ⟨rfl, rfl⟩
  rw [HN.out]
  go_wp2_with fail
  go_ret2
  exact ⟨rfl, NEW.out, cagrown_two _ _ _ _ _ _⟩
theorem capop_nil (w : World) (c : Int) :
  Calls Tryz.prog 57 #[.pointer none, .int .i64 c] w fun e w' => e = .returned (.tuple #[.int .i64 0, .bool false]) ∧ w = w' := by
 go_enter Tryz.func57, Tryz.ntmps57
 go_wp2_with fail
 refine (caof_out _ none c (.inl rfl)).mono ?_
 rintro e w' ⟨rfl, rfl⟩
 go_wp2_with fail
 go_ret2
 exact ⟨rfl, rfl⟩
set_option maxHeartbeats 1000000 in
theorem capages_any (w : World) (g : Nat) (f : M.Ky) (h : IsC w g f) :
  Calls Tryz.prog 74 #[.pointer (some ⟨g, 0, none⟩)] w fun e w' => e = .returned (.int .i64 (M.sum f)) ∧ w = w' := by
 have H := Lib.hid h
 clear h
 go_enter Tryz.func74, Tryz.ntmps74
 go_wp2_with fail
 go_loop [3, 4, 5] (fun t _ i => ∃ k : Nat, k ≤ 7 ∧ i = .int .i64 (k : Int) ∧ t = .int .i64 (M.sumTo f k)) (fun _ _ i => 7 - (intOf i).toNat)
 case atStart => exact ⟨0, by omega, rfl, rfl⟩
 case round =>
  obtain ⟨k, hk, rfl, rfl⟩ := hrel
  by_cases hlt : k < 7
  ·have b1 := M.sumTo_between H.out.good k hk
   have b2 := M.len_mul H.out.good k
   have es : M.sumTo f (k + 1) = M.sumTo f k + ((f k).length : Int) * M.pg k := rfl
   obtain ⟨T, hT⟩ : ∃ T, M.sumTo f k = T := ⟨_, rfl⟩
   obtain ⟨n, hn⟩ : ∃ n : Int, ((f k).length : Int) = n := ⟨_, rfl⟩
   obtain ⟨q, hq⟩ : ∃ q, M.pg k = q := ⟨_, rfl⟩
   rw [hT] at b1 es
   rw [hn, hq] at b2 es
   rw [hT]
   obtain ⟨x, hx⟩ : ∃ x, n * q = x := ⟨_, rfl⟩
   rw [hx] at b2 es
   have s1 : wrap64 (n * q) = x := by rw [hx]; unfold wrap64; omega
   have s2 : wrap64 (T + x) = T + x := by unfold wrap64; omega
   have ES := Lib.hid es
   have HQ := Lib.hid hq
   have HN := Lib.hid hn
   clear b1 b2 es hT hn hq hx
   go_wp2_with fail
   refine (calen_any _ g f H.out k).mono ?_
   rintro e w' ⟨rfl, rfl⟩
   rw [HN.out]
   go_wp2_with fail
   refine (cpages_at (k : Int) q rfl HQ.out _).mono ?_
   rintro e w' ⟨rfl, rfl⟩
   go_wp2_with fail
   go_round
   case rel => exact ⟨k + 1, by omega, by go_num, by rw [ES.out, s2]⟩
   case measure => simp [intOf]; omega
  ·have e : k = 7 := by omega
   subst e
   go_wp2_with fail
   go_ret
   exact ⟨rfl, rfl⟩
set_option maxHeartbeats 1000000 in
theorem capages_nil (w : World) :
  Calls Tryz.prog 74 #[.pointer none] w fun e w' => e = .returned (.int .i64 0) ∧ w = w' := by
 go_enter Tryz.func74, Tryz.ntmps74
 go_wp2_with fail
 go_loop [3, 4, 5] (fun t _ i => ∃ k : Nat, k ≤ 7 ∧ i = .int .i64 (k : Int) ∧ t = .int .i64 0) (fun _ _ i => 7 - (intOf i).toNat)
 case atStart => exact ⟨0, by omega, rfl, rfl⟩
 case round =>
  obtain ⟨k, hk, rfl, rfl⟩ := hrel
  by_cases hlt : k < 7
  ·obtain ⟨q, hq⟩ : ∃ q, M.pg k = q := ⟨_, rfl⟩
   have HQ := Lib.hid hq
   clear hq
   go_wp2_with fail
   refine (calen_nil _ k).mono ?_
   rintro e w' ⟨rfl, rfl⟩
   go_wp2_with fail
   refine (cpages_at (k : Int) q rfl HQ.out _).mono ?_
   rintro e w' ⟨rfl, rfl⟩
   go_wp2_with fail
   go_round
   case rel => exact ⟨k + 1, by omega, by go_num, by go_num⟩
   case measure => simp [intOf]; omega
  ·go_wp2_with fail
   go_ret
   exact ⟨rfl, rfl⟩
theorem caclear_nil (w : World) : Calls Tryz.prog 75 #[.pointer none] w fun e w' => e = .returned (.tuple #[]) ∧ w = w' := by
 go_enter Tryz.func75, Tryz.ntmps75
 go_wp2_with fail
 go_end0
 exact ⟨rfl, rfl⟩
theorem caclear_any (w : World) (g : Nat) (f : M.Ky) (h : IsC w g f) : Calls Tryz.prog 75 #[.pointer (some ⟨g, 0, none⟩)] w fun e w' => e = .returned (.tuple #[]) ∧ IsC w' g M.empty ∧ w.grownBy w' (some g) := by
 have H := Lib.hid h
 have one : (List.replicate 56 (Value.int .i64 0)).toArray.all (·.oneCell') = true := by kernel_rfl
 have ONE := Lib.hid one
 clear h one
 go_enter Tryz.func75, Tryz.ntmps75
 go_wp2_with (refine wpList_store_row rfl 111 (Operand.tmp 6) (Operand.tmp 5) rfl g (List.replicate 56 (Value.int .i64 0)).toArray rfl rfl _ _ H.out.blk (by kernel_rfl) (by simp [cacl_length]) ONE.out ?_)
 go_end0
 exact ⟨rfl, H.out.clear, ⟨rfl, rfl, rfl, by simp, fun i hi hne => setRow_other w g i _ (fun e => hne (by rw [e]))⟩⟩
end Go.Proofs.YtmboibipabkhaaaGreat
namespace Go.Proofs.YtmboibipabkhaaaGreat
open Go.ChangeShapes Go.WideShapes Go.ChangeAt Go.RowKit Go.Deep
set_option linter.unusedVariables false
set_option maxRecDepth 20000
theorem made56 : madeCells #[Value.int .i64 0, Value.int .i64 0] 56 = (List.replicate 56 (Value.int .i64 0)).toArray := by kernel_rfl
theorem run_make28 (w : World) : (Instr.makeSlice 29 (.int .i64 28) (.int .i64 28)).run Tryz.prog w = .ok (.slice (some ⟨w.heap.size, 0, none⟩) 28 28) (w.alloc (.cells (List.replicate 56 (Value.int .i64 0)).toArray 98)) := by
 obtain ⟨i, hi, hz, hs, hb⟩ := info36
 have := run_make w 29 98 i _ Tryz.underlying29 hi hz .i64 .i64 28 28 (by omega) (by omega) (by rw [hb]; omega) (by omega)
 rw [this, hs, ← made56]
 rfl
def AllGot (w : World) (l : List M.R) (e : Ending) (w' : World) : Prop := ∃ g z, e = .returned (.slice (some ⟨g, 0, none⟩) z 28) ∧ z = l.length ∧ z ≤ 28 ∧ Runs w' (some ⟨g, 0, none⟩) l ∧ w.heap.size ≤ g ∧ Below w.heap.size w w'
structure Sofar (w wr : World) (f : M.Ky) (ga k n : Nat) : Prop where
 kk : k ≤ 7
 nn : n = (M.allTo f k).length
 blk : ∃ cs : List Value, Blk wr ga cs ∧ cs.length = 56 ∧ cs.take (n * 2) = rc (M.allTo f k)
 bel : Below w.heap.size w wr
theorem Sofar.step {w wr : World} {f : M.Ky} {ga k n : Nat} (hg : M.Good f) (hga : w.heap.size ≤ ga) (h : Sofar w wr f ga k n) (hk : k < 7) (cs : List Value) (hb : Blk wr ga cs) (hl : cs.length = 56) (ht : cs.take (n * 2) = rc (M.allTo f k)) (m : Nat) (hm : m = n + (f k).length) :
  Sofar w (wr.drew.setRow ga (splice cs (n * 2) (rc (M.rows f k))).toArray) f ga (k + 1) m := by
 have h1 := M.allTo_length hg k
 have h2 := hg.four k
 have h3 := h.nn
 have hrl : (rc (M.rows f k)).length = (f k).length * 2 := by rw [rc_length, M.rows_length]
 refine ⟨by omega, ?_, ⟨_, hb.drew.set _, ?_, ?_⟩, below_setRow h.bel.drew hga _⟩
 ·rw [M.allTo, List.length_append, M.rows_length]; omega
 ·rw [splice_length _ _ _ (by omega), hl]
 ·have e : m * 2 = n * 2 + (rc (M.rows f k)).length := by omega
  rw [e, splice, List.append_assoc, List.take_append, List.take_append, List.take_of_length_le (by simp; omega)]
  rw [show (cs.take (n * 2)).length = n * 2 by simp; omega, Nat.add_sub_cancel_left, List.take_of_length_le (Nat.le_refl _), Nat.sub_self, List.take_zero, List.append_nil, ht, ← rc_append]
  rfl
set_option maxHeartbeats 4000000 in
theorem caall_go (w : World) (P : Option Addr) (f : M.Ky) (A : Nat → Option Addr) (cap : Nat → Nat) (hg : M.Good f)
  (hof : ∀ W, Below w.heap.size w W → ∀ k : Nat, k < 7 → Calls Tryz.prog 77 #[.pointer P, .int .i64 (k : Int)] W fun e w' => e = .returned (.slice (A k) (f k).length (cap k)) ∧ W = w')
  (hcp : ∀ W ga cs, Below w.heap.size w W → Blk W ga cs → w.heap.size ≤ ga → cs.length = 56 → ∀ k : Nat, k < 7 → ∀ n, n ≤ 24 → ∀ ty, (Builtin.copy_ #[29, 29] ty #[.slice (some ⟨ga, n * 2, none⟩) (28 - n) (28 - n), .slice (A k) (f k).length (cap k)]).run Tryz.prog W = .ok (goInt ((f k).length : Int)) (W.setRow ga (splice cs (n * 2) (rc (M.rows f k))).toArray)) :
  Calls Tryz.prog 47 #[.pointer P] w (AllGot w (M.all f)) := by
 have mk := run_make28 w
 obtain ⟨ga, hga⟩ : ∃ ga, ga = w.heap.size := ⟨_, rfl⟩
 rw [← hga] at mk
 obtain ⟨w1, hw1⟩ : ∃ w1, w1 = w.alloc (.cells (List.replicate 56 (Value.int .i64 0)).toArray 98) := ⟨_, rfl⟩
 rw [← hw1] at mk
 have s0 : Sofar w w1 f ga 0 0 := ⟨by omega, rfl, ⟨List.replicate 56 (.int .i64 0), by rw [hga, hw1]; exact Blk.new w _, by simp, by simp [M.allTo, rc_nil]⟩, by rw [hw1]; exact (Below.refl _ _).alloc (Nat.le_refl _) _⟩
 have S0 := Lib.hid s0
 have OF := Lib.hid hof
 have CP := Lib.hid hcp
 have GA := Lib.hid (show w.heap.size ≤ ga by omega)
 clear s0 hof hcp hga hw1
 go_enter Tryz.func47, Tryz.ntmps47
 go_wp2_with fail
 go_loopw [4, 5, 7] (fun t _ i wr => ∃ k n : Nat, i = .int .i64 (k : Int) ∧ t = .int .i64 (n : Int) ∧ Sofar w wr f ga k n) (fun _ _ i _ => 7 - (intOf i).toNat)
 case atStart => exact ⟨0, 0, rfl, rfl, S0.out⟩
 case round =>
  obtain ⟨k, n, rfl, rfl, hs⟩ := hrel
  have hk := hs.kk
  by_cases hlt : k < 7
  ·obtain ⟨cs, hb, hl, ht⟩ := hs.blk
   have h1 := M.allTo_length hg k
   have hn := hs.nn
   have h4 := hg.four k
   have n24 : n ≤ 24 := by omega
   have n28 : n ≤ 28 := by omega
   have i28 : (n : Int) ≤ 28 := by omega
   have ne28 : ¬ 28 = n := by omega
   obtain ⟨z, hz⟩ : ∃ z, (f k).length = z := ⟨_, rfl⟩
   obtain ⟨m, hm⟩ : ∃ m, m = n + z := ⟨_, rfl⟩
   have STEP := Lib.hid (hs.step hg GA.out hlt cs hb hl ht m (by omega))
   have cp := CP.out wr.drew ga cs hs.bel.drew hb.drew GA.out hl k hlt n n24
   rw [hz] at cp
   have hw2 : IntKind.i64.wrap ((n : Int) + (z : Int)) = (m : Int) := by rw [IntKind.wrap_i64]; omega
   have HZ := Lib.hid hz
   have DB := Lib.hid hs.bel.drew
   clear hs hb hl ht h1 hn h4 n24 hz hm hk
   go_wp2_with fail
   refine wp_region_noPanic ?_
   refine wp_region_held_drew (S := fun _ => True) (by kernel_rfl) (trivial) (fun hHeld => ?_)
   refine tkA 0 (some 10) (Op.move (Operand.tmp 4)) 3 (v := ?_) rfl (by kernel_rfl) ?_ ‹_› ?_
   rotate_left
   ·(intro w h; (try dsimp only at h); go_simp) <;> with_reducible rfl
   (try simp only [Act.put, yI, yZ, yS])
   refine tkA 1 (some 11) (Op.move (Operand.tmp 3)) 29 (v := ?_) rfl (by kernel_rfl) ?_ ‹_› ?_
   rotate_left
   ·(intro w h; (try dsimp only at h); go_simp) <;> with_reducible rfl
   (try simp only [Act.put, yI, yZ, yS])
   refine tkA 2 (some 12) (Op.move (Operand.tmp 4)) 3 (v := ?_) rfl (by kernel_rfl) ?_ ‹_› ?_
   rotate_left
   ·(intro w h; (try dsimp only at h); go_simp) <;> with_reducible rfl
   (try simp only [Act.put, yI, yZ, yS])
   refine tkA 3 (some 13) (Op.slice 29 (Operand.tmp 11) (some (Operand.tmp 12)) none none) 29 (v := ?_) rfl (by kernel_rfl) ?_ ‹_› ?_
   rotate_left
   ·(intro w h; (try dsimp only at h); go_simp) <;> with_reducible rfl
   (try simp only [Act.put, yI, yZ, yS])
   refine tkA 4 (some 14) (Op.move (Operand.tmp 0)) 67 (v := ?_) rfl (by kernel_rfl) ?_ ‹_› ?_
   rotate_left
   ·(intro w h; (try dsimp only at h); go_simp) <;> with_reducible rfl
   (try simp only [Act.put, yI, yZ, yS])
   refine tkA 5 (some 15) (Op.move (Operand.tmp 5)) 3 (v := ?_) rfl (by kernel_rfl) ?_ ‹_› ?_
   rotate_left
   ·(intro w h; (try dsimp only at h); go_simp) <;> with_reducible rfl
   (try simp only [Act.put, yI, yZ, yS])
   refine rdA (rs := [6]) (by kernel_rfl) ?_ rfl
   refine rcA (some 16) (Op.call { callee := Callee.value (Operand.func 77), args := #[Operand.tmp 14, Operand.tmp 15], argTypes := #[67, 3] }) 29 rfl (by kernel_rfl) (fun K hK => ?_) AllReadyH.nil
   go_simp
   refine (OF.out _ DB.out k hlt).mono ?_
   rintro e y1 ⟨rfl, rfl⟩
   rw [HZ.out]
   go_wp2_with fail
   refine hK.out _ _ ?_ (fun hHeld => ?_)
   ·trivial
   clear hK K
   (try simp only [Act.put, yI, yZ, yS])
   refine rdA (rs := [7]) (by kernel_rfl) ?_ rfl
   refine rcA (some 17) (Op.call { callee := Callee.builtin Builtin.copy, args := #[Operand.tmp 13, Operand.tmp 16], argTypes := #[29, 29] }) 3 rfl (by kernel_rfl) (fun K hK => ?_) AllReadyH.nil
   go_simp
   refine hK.out _ _ ?_ (fun hHeld => ?_)
   ·trivial
   clear hK K
   (try simp only [Act.put, yI, yZ, yS])
   refine tkA 8 (some 18) (Op.binOp BinOp.add 3 (Operand.tmp 10) (Operand.tmp 17) 3) 3 (v := ?_) rfl (by kernel_rfl) ?_ ‹_› ?_
   rotate_left
   ·(intro w h; (try dsimp only at h); go_simp) <;> with_reducible rfl
   (try simp only [Act.put, yI, yZ, yS])
   refine tkA 9 (some 4) (Op.assign (Operand.tmp 18)) 3 (v := ?_) rfl (by kernel_rfl) ?_ ‹_› ?_
   rotate_left
   ·(intro w h; (try dsimp only at h); go_simp) <;> with_reducible rfl
   (try simp only [Act.put, yI, yZ, yS])
   refine wpAnyH_done (by kernel_rfl) ?_ _
   refine NoPanic.normal ?_
   go_wp2_with fail
   go_roundw
   case rel => exact ⟨k + 1, m, by go_num, rfl, STEP.out⟩
   case measure => simp [intOf]; omega
  ·have e : k = 7 := by omega
   subst e
   obtain ⟨cs, hb, hl, ht⟩ := hs.blk
   have h1 := M.allTo_length hg 7
   have hn := hs.nn
   have n28 : n ≤ 28 := by omega
   have i28 : (n : Int) ≤ 28 := by omega
   have RES := Lib.hid (show AllGot w (M.all f) (.returned (.slice (some ⟨ga, 0, none⟩) n 28)) wr from ⟨ga, n, rfl, hn, n28, hb.runs (by rw [M.all, ← hn]; exact ht), GA.out, hs.bel⟩)
   clear hs hb hl ht h1 hn hk
   go_wp2_with fail
   go_ret
   exact RES.out
theorem caall_any (w : World) (g : Nat) (f : M.Ky) (h : IsC w g f) : Calls Tryz.prog 47 #[.pointer (some ⟨g, 0, none⟩)] w (AllGot w (M.all f)) := by
 refine caall_go w (some ⟨g, 0, none⟩) f (fun k => some ⟨g, k * 8, none⟩) (fun _ => 4) h.good (fun W hW k hk => caof_in W g f (h.below hW) k hk) (fun W ga cs hW hb hga hl k hk n hn ty => ?_)
 have h4 := h.good.four k
 have hr := (h.below hW).runs k hk
 refine run_copy2 W ty ga (n * 2) cs hb (28 - n) (28 - n) ⟨g, k * 8, none⟩ (f k).length 4 (f k).length (rc (M.rows f k)) (by simp only [Nat.min_def]; split <;> omega) (by rw [rc_length, M.rows_length]) (fun j v hv => ?_) (by rw [rc_length, M.rows_length, hl]; omega) (rc_one _)
 have hpos : 0 < (M.rows f k).length := by
  rcases Nat.eq_zero_or_pos (M.rows f k).length with h0 | h0
  ·rw [List.eq_nil_of_length_eq_zero h0] at hv; simp [rc_nil] at hv
  ·exact h0
 obtain ⟨bl, o, e, hc⟩ := hr hpos
 injection e with e
 rw [e, Addr.add_lit]
 exact runs_cells hc j v hv
theorem run_copy_none (W : World) (ty : TypeId) (a : Option Addr) (dl dc : Nat) : (Builtin.copy_ #[29, 29] ty #[.slice a dl dc, .slice none 0 0]).run Tryz.prog W = .ok (goInt 0) W := by
 obtain ⟨i, hi, hz, hs, hb⟩ := info36
 cases a <;> simp [Builtin.copy_, run_underlying Tryz.underlying29, Builtin.lenOf, Builtin.firstCells, sizeOf, typeInfo, hi, storeCells]
theorem caall_nil (w : World) : Calls Tryz.prog 47 #[.pointer none] w (AllGot w []) := by
 have := caall_go w none M.empty (fun _ => none) (fun _ => 0) M.Good.empty (fun W hW k hk => caof_out W none k (.inl rfl)) (fun W ga cs hW hb hga hl k hk n hn ty => by
  rw [show M.rows M.empty k = [] from rfl, rc_nil, splice_nil, setRow_self W ga cs.toArray _ _ hb]
  exact run_copy_none W ty _ _ _)
 rw [M.all_empty] at this
 exact this
end Go.Proofs.YtmboibipabkhaaaGreat
namespace Go.Proofs.YtmboibipabkhaaaGreat
open Go.ChangeShapes Go.WideShapes Go.ChangeAt Go.RowKit Go.Deep
set_option linter.unusedVariables false
set_option maxRecDepth 20000
structure Kp (w0 w : World) (g : Nat) (f : M.Ky) : Prop where
 has : IsC w g f
 bel : Below w0.heap.size w0 w
 old : w0.heap.size ≤ g
section
variable {w0 w w' : World} {g : Nat} {f f' : M.Ky}
theorem Kp.below (h : Kp w0 w g f) (hb : Below w.heap.size w w') : Kp w0 w' g f := ⟨h.has.below hb, below_call h.bel hb, h.old⟩
theorem Kp.grown (h : Kp w0 w g f) (hh : IsC w' g f') (hg : w.grownBy w' (some g)) : Kp w0 w' g f' := ⟨hh, h.bel.grown hg h.bel.size (fun j hj => by cases hj; exact h.old), h.old⟩
theorem Kp.other (h : Kp w0 w g f) {r : Nat} (hr : g ≠ r) (ho : w0.heap.size ≤ r) (hg : w.grownBy w' (some r)) : Kp w0 w' g f := ⟨h.has.grown hr hg, h.bel.grown hg h.bel.size (fun j hj => by cases hj; exact ho), h.old⟩
theorem k_new (h : Below w0.heap.size w0 w) : Calls Tryz.prog 25 #[] w fun e w' => ∃ g, e = .returned (.pointer (some ⟨g, 0, none⟩)) ∧ Kp w0 w' g M.empty ∧ Below w.heap.size w w' ∧ w.heap.size ≤ g := by
 refine (canew_any w).mono ?_
 rintro e w' ⟨g, rfl, hh, hb, hg⟩
 exact ⟨g, rfl, ⟨hh, below_call h hb, Nat.le_trans h.size hg⟩, hb, hg⟩
theorem k_push (h : Kp w0 w g f) (c p : Int) : Calls Tryz.prog 43 #[.pointer (some ⟨g, 0, none⟩), .int .i64 c, .int .i64 p] w fun e w' => e = .returned (.bool (M.pushB f c p)) ∧ Kp w0 w' g (M.pushF f c p) ∧ w.grownBy w' (some g) := by
 refine (capush_any w g f h.has c p).mono ?_
 rintro e w' ⟨rfl, hh, hg⟩
 exact ⟨rfl, h.grown hh hg, hg⟩
theorem k_pop (h : Kp w0 w g f) (c : Int) : Calls Tryz.prog 57 #[.pointer (some ⟨g, 0, none⟩), .int .i64 c] w fun e w' => e = .returned (.tuple #[.int .i64 (M.popV f c), .bool (M.popB f c)]) ∧ Kp w0 w' g (M.popF f c) ∧ w.grownBy w' (some g) := by
 refine (capop_any w g f h.has c).mono ?_
 rintro e w' ⟨rfl, hh, hg⟩
 exact ⟨rfl, h.grown hh hg, hg⟩
theorem k_clear (h : Kp w0 w g f) : Calls Tryz.prog 75 #[.pointer (some ⟨g, 0, none⟩)] w fun e w' => e = .returned (.tuple #[]) ∧ Kp w0 w' g M.empty ∧ w.grownBy w' (some g) := by
 refine (caclear_any w g f h.has).mono ?_
 rintro e w' ⟨rfl, hh, hg⟩
 exact ⟨rfl, h.grown hh hg, hg⟩
theorem k_pages (h : Kp w0 w g f) : Calls Tryz.prog 74 #[.pointer (some ⟨g, 0, none⟩)] w fun e w' => e = .returned (.int .i64 (M.sum f)) ∧ w = w' := capages_any w g f h.has
theorem k_all (h : Kp w0 w g f) : Calls Tryz.prog 47 #[.pointer (some ⟨g, 0, none⟩)] w (AllGot w (M.all f)) := caall_any w g f h.has
end
end Go.Proofs.YtmboibipabkhaaaGreat
