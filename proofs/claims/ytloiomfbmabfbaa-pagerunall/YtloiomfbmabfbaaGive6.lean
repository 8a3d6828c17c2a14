/-
  The program's Give.
-/
import Derived.Test.YtloiomfbmabfbaaGive5
import Derived.Test.YtloiomfbmabfbaaCon7
namespace Go.Proofs.Ytloiomfbmabfbaa
open Go.ChangeShapes Go.WideShapes Go.ChangeAt Go.RowKit Go.Deep
set_option linter.unusedVariables false
set_option maxRecDepth 20000

set_option maxHeartbeats 8000000 in
theorem give_none (w : World) (A : Option Addr) (l : List M.R) (z c : Nat) (hz : z = l.length) (hA : Runs w A l) (hl : z ≤ 4000000000) (hok : M.Ok (-1) 1073741824 l) (N p n : Int) (hN : N ≤ 1073741824) (hg : giveB l N p n = true) (h0 : z = 0) :
    Calls Try.prog 25 #[.slice A z c, .int .i64 N, .int .i64 p, .int .i64 n] w (GotG w (giveL l N p n) (giveB l N p n)) := by
  have HR := Lib.hid (show giveL l N p n = M.give l p n ∧ giveB l N p n = true from ⟨by rw [giveL, if_pos hg], hg⟩)
  unfold giveB at hg
  simp only [Bool.and_eq_true, Bool.not_eq_true'] at hg
  obtain ⟨hf, hh⟩ := hg
  have hfb := (fitsB_iff _ _ _).1 hf
  have hfits := fun W => fits_any W p n N (by omega)
  rw [hf] at hfits
  have hhas := fun W h => has_any W A l z c hz h (by omega) hok p n (by omega) (by omega) (by omega)
  rw [hh] at hhas
  have HZ := Lib.hid hz
  have HA := Lib.hid hA
  have HO := Lib.hid hok
  have HH := Lib.hid hh
  have H0 := Lib.hid h0
  clear h0
  have HC := Lib.hid (And.intro hfits hhas)
  obtain ⟨g, hg⟩ : ∃ g, g = w.heap.size := ⟨_, rfl⟩
  have HGW := Lib.hid (show w.heap.size ≤ g from by omega)
  have x1 := Box.new w 51 p n
  rw [← hg] at x1
  have X1 := Lib.hid x1
  have HG := Lib.hid hg
  have B1 := Lib.hid (show Below w.heap.size w (w.alloc (.cells #[.int .i64 p, .int .i64 n] 51)) from (Below.refl _ _).alloc (Nat.le_refl _) _)
  clear hfits hhas hz hA hok hh hf x1 hg
  go_enter Try.func25, Try.ntmps25
  go_wp2_with (first
    | (go_at_call 33; refine (HC.out.1 _).mono ?_; rintro e w2 ⟨rfl, b2⟩; (have B2 := Lib.hid (below_call B1.out b2)); (have X2 := Lib.hid (X1.out.below b2)); clear b2)
    | (go_at_call 36; refine (HC.out.2 _ (HA.out.below B2.out)).mono ?_; rintro e w3 ⟨rfl, b3⟩))
  rw [← HG.out]
  have BW := Lib.hid (below_call B2.out b3)
  have BX := Lib.hid (X2.out.below b3)
  clear b3 B2 X2 X1 B1 HC
  obtain ⟨p0, hp0⟩ : ∃ p0, p0 = p := ⟨_, rfl⟩
  go_loop [11] (fun i => ∃ k : Nat, k ≤ z ∧ i = .int .i64 (k : Int)) (fun i => z - (intOf i).toNat)
  case atStart => exact ⟨0, by omega, rfl⟩
  case round =>
    obtain ⟨k, hk, rfl⟩ := hrel
    have hkz2 : ¬ k < z := by have := H0.out; omega
    have hkpos : ¬ 0 < k := by have := H0.out; omega
    have hgive : M.give l p n = l.take (M.fromA l k p) ++ (M.gB l k (M.gA l k p n) :: l.drop (M.toB l k (M.gA l k p n))) := by
      have e0 : k = M.cnt p l := M.cnt_of p l k (by have := HZ.out; omega) (fun j _ h => by omega) (fun h => by have := HZ.out; omega)
      rw [e0]; rfl
    have hfA : M.fromA l k p = k := by unfold M.fromA M.jA; simp [hkpos]
    have hgA : M.gA l k p n = ⟨p, n⟩ := by unfold M.gA M.jA; simp [hkpos]
    have GV := Lib.hid (show M.give l p n = l.take k ++ (M.gB l k ⟨p, n⟩ :: l.drop (M.toB l k ⟨p, n⟩)) by rw [hgive, hfA, hgA])
    clear hgive hfA hgA
    have HF := Lib.hid (show k ≤ k ∧ True from ⟨Nat.le_refl _, trivial⟩)
    go_wp2_with fail
    obtain ⟨ea, hea⟩ : ∃ ea, p + n = ea := ⟨_, rfl⟩
    have HE := Lib.hid (show p + n = ea ∧ -9223372036854775808 ≤ ea ∧ ea ≤ 9223372036854775807 from ⟨hea, by omega, by omega⟩)
    have hkl : ¬ k < l.length := by have := HZ.out; omega
    have hgB : M.gB l k ⟨p, n⟩ = ⟨p, n⟩ := by unfold M.gB M.jB; simp [hkl]
    have htB : M.toB l k ⟨p, n⟩ = k := by unfold M.toB M.jB; simp [hkl]
    have HGV := Lib.hid (show M.give l p n = l.take k ++ (⟨p, n⟩ :: l.drop k) by rw [GV.out, hgB, htB])
    clear hgB htB GV hkl hea
    go_cut [75] (fun v wx => v = .bool false ∧ Box wx g p n ∧ Below w.heap.size w wx)
    case first =>
      refine wp_region_noPanic ?_
      refine wp_region_held_drew (S := fun W => W.cell? ⟨g, 0, none⟩ = some (.int .i64 p) ∧ W.cell? ⟨g, 1, none⟩ = some (.int .i64 n)) (by kernel_rfl) (⟨BX.out.drew.c0, BX.out.drew.c1⟩) (fun hHeld => ?_)
      refine wpAnyH_take (i := 0) (oi := ({ dst := some 62, op := Op.move (Operand.tmp 12), type := 3, pos := "runs.go:99", after := #[], guard := none } : Oper)) (v := ?_) rfl (by kernel_rfl) (by kernel_rfl) (by kernel_rfl) (fun _ _ _ h => h) (Or.inl ⟨by rfl, ?_⟩) (by assumption) ?_
      rotate_left
      · (intro w hSw; (try dsimp only at hSw); go_simp) <;> with_reducible rfl
      (try simp only [Act.put, List.setIfInBounds_toArray, List.set_cons_zero, List.set_cons_succ])
      refine wpAnyH_take (i := 1) (oi := ({ dst := some 63, op := Op.move (Operand.tmp 0), type := 26, pos := "runs.go:99", after := #[], guard := none } : Oper)) (v := ?_) rfl (by kernel_rfl) (by kernel_rfl) (by kernel_rfl) (fun _ _ _ h => h) (Or.inl ⟨by rfl, ?_⟩) (by assumption) ?_
      rotate_left
      · (intro w hSw; (try dsimp only at hSw); go_simp) <;> with_reducible rfl
      (try simp only [Act.put, List.setIfInBounds_toArray, List.set_cons_zero, List.set_cons_succ])
      refine wpAnyH_take (i := 2) (oi := ({ dst := some 64, op := Op.call { callee := Callee.builtin Builtin.len, args := #[Operand.tmp 63], argTypes := #[26] }, type := 3, pos := "runs.go:99", after := #[{ on := 1, ground := Ground.data }], guard := none } : Oper)) (v := ?_) rfl (by kernel_rfl) (by kernel_rfl) (by kernel_rfl) (fun _ _ _ h => h) (Or.inl ⟨by rfl, ?_⟩) (by assumption) ?_
      rotate_left
      · (intro w hSw; (try dsimp only at hSw); go_simp) <;> with_reducible rfl
      (try simp only [Act.put, List.setIfInBounds_toArray, List.set_cons_zero, List.set_cons_succ])
      refine wpAnyH_take (i := 3) (oi := ({ dst := some 65, op := Op.binOp BinOp.lss 3 (Operand.tmp 62) (Operand.tmp 64) 3, type := 4, pos := "runs.go:99", after := #[{ on := 0, ground := Ground.data }, { on := 2, ground := Ground.data }], guard := none } : Oper)) (v := ?_) rfl (by kernel_rfl) (by kernel_rfl) (by kernel_rfl) (fun _ _ _ h => h) (Or.inl ⟨by rfl, ?_⟩) (by assumption) ?_
      rotate_left
      · (intro w hSw; (try dsimp only at hSw); go_simp) <;> with_reducible rfl
      (try simp only [Act.put, List.setIfInBounds_toArray, List.set_cons_zero, List.set_cons_succ])
      refine wpAnyH_take (i := 4) (oi := ({ dst := some 66, op := Op.move (Operand.tmp 65), type := 4, pos := "runs.go:99", after := #[{ on := 3, ground := Ground.data }], guard := none } : Oper)) (v := ?_) rfl (by kernel_rfl) (by kernel_rfl) (by kernel_rfl) (fun _ _ _ h => h) (Or.inl ⟨by rfl, ?_⟩) (by assumption) ?_
      rotate_left
      · (intro w hSw; (try dsimp only at hSw); go_simp) <;> with_reducible rfl
      (try simp only [Act.put, List.setIfInBounds_toArray, List.set_cons_zero, List.set_cons_succ])
      refine wpAnyH_take (i := 5) (oi := ({ dst := some 67, op := Op.move (Operand.tmp 0), type := 26, pos := "runs.go:99", after := #[{ on := 4, ground := Ground.guard }], guard := some (4, true) } : Oper)) (v := undef) rfl (by kernel_rfl) (by kernel_rfl) (by kernel_rfl) (fun _ _ _ h => h) (Or.inr ⟨by rfl, rfl⟩) (by assumption) ?_
      (try simp only [Act.put, List.setIfInBounds_toArray, List.set_cons_zero, List.set_cons_succ])
      refine wpAnyH_take (i := 6) (oi := ({ dst := some 68, op := Op.move (Operand.tmp 12), type := 3, pos := "runs.go:99", after := #[{ on := 4, ground := Ground.guard }], guard := some (4, true) } : Oper)) (v := undef) rfl (by kernel_rfl) (by kernel_rfl) (by kernel_rfl) (fun _ _ _ h => h) (Or.inr ⟨by rfl, rfl⟩) (by assumption) ?_
      (try simp only [Act.put, List.setIfInBounds_toArray, List.set_cons_zero, List.set_cons_succ])
      refine wpAnyH_take (i := 7) (oi := ({ dst := some 69, op := Op.indexAddr 26 (Operand.tmp 67) (Operand.tmp 68), type := 0, pos := "runs.go:99", after := #[{ on := 5, ground := Ground.data }, { on := 6, ground := Ground.data }, { on := 4, ground := Ground.guard }], guard := some (4, true) } : Oper)) (v := undef) rfl (by kernel_rfl) (by kernel_rfl) (by kernel_rfl) (fun _ _ _ h => h) (Or.inr ⟨by rfl, rfl⟩) (by assumption) ?_
      (try simp only [Act.put, List.setIfInBounds_toArray, List.set_cons_zero, List.set_cons_succ])
      refine wpAnyH_take (i := 8) (oi := ({ dst := some 70, op := Op.fieldAddr 51 (Operand.tmp 69) 0, type := 0, pos := "runs.go:99", after := #[{ on := 7, ground := Ground.data }, { on := 4, ground := Ground.guard }], guard := some (4, true) } : Oper)) (v := undef) rfl (by kernel_rfl) (by kernel_rfl) (by kernel_rfl) (fun _ _ _ h => h) (Or.inr ⟨by rfl, rfl⟩) (by assumption) ?_
      (try simp only [Act.put, List.setIfInBounds_toArray, List.set_cons_zero, List.set_cons_succ])
      refine wpAnyH_take (i := 9) (oi := ({ dst := some 71, op := Op.load 3 (Operand.tmp 70), type := 3, pos := "runs.go:99", after := #[{ on := 8, ground := Ground.data }, { on := 4, ground := Ground.guard }], guard := some (4, true) } : Oper)) (v := undef) rfl (by kernel_rfl) (by kernel_rfl) (by kernel_rfl) (fun _ _ _ h => h) (Or.inr ⟨by rfl, rfl⟩) (by assumption) ?_
      (try simp only [Act.put, List.setIfInBounds_toArray, List.set_cons_zero, List.set_cons_succ])
      refine wpAnyH_take (i := 10) (oi := ({ dst := some 72, op := Op.load 51 (Operand.tmp 10), type := 51, pos := "runs.go:99", after := #[{ on := 4, ground := Ground.guard }], guard := some (4, true) } : Oper)) (v := undef) rfl (by kernel_rfl) (by kernel_rfl) (by kernel_rfl) (fun _ _ _ h => h) (Or.inr ⟨by rfl, rfl⟩) (by assumption) ?_
      (try simp only [Act.put, List.setIfInBounds_toArray, List.set_cons_zero, List.set_cons_succ])
      refine wpAnyH_take (i := 11) (oi := ({ dst := some 73, op := Op.call { callee := Callee.value (Operand.func 34), args := #[Operand.tmp 72], argTypes := #[51] }, type := 3, pos := "runs.go:99", after := #[{ on := 10, ground := Ground.data }, { on := 4, ground := Ground.chain }, { on := 4, ground := Ground.guard }], guard := some (4, true) } : Oper)) (v := undef) rfl (by kernel_rfl) (by kernel_rfl) (by kernel_rfl) (fun _ _ _ h => h) (Or.inr ⟨by rfl, rfl⟩) (by assumption) ?_
      (try simp only [Act.put, List.setIfInBounds_toArray, List.set_cons_zero, List.set_cons_succ])
      refine wpAnyH_take (i := 12) (oi := ({ dst := some 74, op := Op.binOp BinOp.eql 3 (Operand.tmp 71) (Operand.tmp 73) 3, type := 4, pos := "runs.go:99", after := #[{ on := 9, ground := Ground.data }, { on := 11, ground := Ground.data }, { on := 4, ground := Ground.guard }], guard := some (4, true) } : Oper)) (v := undef) rfl (by kernel_rfl) (by kernel_rfl) (by kernel_rfl) (fun _ _ _ h => h) (Or.inr ⟨by rfl, rfl⟩) (by assumption) ?_
      (try simp only [Act.put, List.setIfInBounds_toArray, List.set_cons_zero, List.set_cons_succ])
      refine wpAnyH_take (i := 13) (oi := ({ dst := some 75, op := Op.pick (Operand.tmp 66) (Operand.tmp 74) (Operand.const (Value.bool false)), type := 4, pos := "runs.go:99", after := #[{ on := 4, ground := Ground.data }, { on := 12, ground := Ground.data }], guard := none } : Oper)) (v := ?_) rfl (by kernel_rfl) (by kernel_rfl) (by kernel_rfl) (fun _ _ _ h => h) (Or.inl ⟨by rfl, ?_⟩) (by assumption) ?_
      rotate_left
      · (intro w hSw; (try dsimp only at hSw); go_simp) <;> with_reducible rfl
      (try simp only [Act.put, List.setIfInBounds_toArray, List.set_cons_zero, List.set_cons_succ])
      refine wpAnyH_done (by kernel_rfl) ?_ _
      refine NoPanic.normal ?_
      go_wp2_with fail
      go_meet
      exact ⟨by first | rfl | (simp; omega), BX.out.drew, BW.out.drew⟩
    case rest =>
      obtain ⟨rfl, bx, bw⟩ := hcut
      have f0 := bx.c0
      have f1 := bx.c1
      have YW := Lib.hid bw
      clear bx bw
      go_wp2_with (go_at_call 38; refine (changed_put _ A l z c k k (k + 1 + (z - k)) p n HZ.out (HA.out.below YW.out) hl (by have := HF.out; omega) (by omega) rfl (by omega)).mono ?_; rintro e w9 ⟨A9, c9, rfl, hr9, hb9, hf9⟩)
      go_ret2
      refine ⟨A9, k + 1 + (z - k), c9, by rw [HR.out.2]; rfl, ?_, by rw [HR.out.1, HGV.out]; exact hr9, below_call YW.out hb9⟩
      have := HZ.out
      have := HF.out
      rw [HR.out.1, HGV.out, List.length_append, List.length_take, List.length_cons, List.length_drop]
      omega

set_option maxHeartbeats 1000000 in
theorem give_no (w : World) (A : Option Addr) (l : List M.R) (z c : Nat) (hz : z = l.length) (hA : Runs w A l) (hl : z ≤ 4000000000) (hok : M.Ok (-1) 1073741824 l) (N p n : Int) (hN : N ≤ 1073741824) (hp : -9223372036854775808 ≤ p) (hg : giveB l N p n = false) :
    Calls Try.prog 25 #[.slice A z c, .int .i64 N, .int .i64 p, .int .i64 n] w (GotG w (giveL l N p n) (giveB l N p n)) := by
  have HR := Lib.hid (show giveL l N p n = [] ∧ giveB l N p n = false from ⟨by rw [giveL, hg]; rfl, hg⟩)
  have HN := Lib.hid (show N ≤ 9223372036854775807 by omega)
  have B1 := Lib.hid (show Below w.heap.size w (w.alloc (.cells #[.int .i64 p, .int .i64 n] 51)) from (Below.refl _ _).alloc (Nat.le_refl _) _)
  have HA := Lib.hid hA
  clear hA
  unfold giveB at hg
  by_cases hf : fitsB p n N = true
  · have hh : M.has l p n = true := by rw [hf] at hg; simpa using hg
    have hfb := (fitsB_iff _ _ _).1 hf
    have hhas := fun W h => has_any W A l z c hz h (by omega) hok p n (by omega) (by omega) (by omega)
    rw [hh] at hhas
    have HC := Lib.hid hhas
    have HF := Lib.hid hf
    clear hhas hg hh hfb hf hok hz
    go_enter Try.func25, Try.ntmps25
    go_wp2_with (first
      | (go_at_call 33; refine (fits_any _ p n N HN.out).mono ?_; rintro e w2 ⟨rfl, b2⟩; rw [HF.out]; (have B2 := Lib.hid (below_call B1.out b2)); clear b2)
      | (go_at_call 36; refine (HC.out _ (HA.out.below B2.out)).mono ?_; rintro e w3 ⟨rfl, b3⟩))
    go_ret2
    exact ⟨none, 0, 0, by rw [HR.out.2]; rfl, by rw [HR.out.1]; rfl, by rw [HR.out.1]; exact Runs.nil, below_call B2.out b3⟩
  · have hf : fitsB p n N = false := by simpa using hf
    have HF := Lib.hid hf
    clear hf hg hok hz
    go_enter Try.func25, Try.ntmps25
    go_wp2_with (go_at_call 33; refine (fits_any _ p n N HN.out).mono ?_; rintro e w2 ⟨rfl, b2⟩; rw [HF.out]; (have B2 := Lib.hid (below_call B1.out b2)); clear b2)
    go_ret2
    exact ⟨none, 0, 0, by rw [HR.out.2]; rfl, by rw [HR.out.1]; rfl, by rw [HR.out.1]; exact Runs.nil, B2.out⟩

theorem give_any (w : World) (A : Option Addr) (l : List M.R) (z c : Nat) (hz : z = l.length) (hA : Runs w A l) (hl : z ≤ 4000000000) (hok : M.Ok (-1) 1073741824 l) (N p n : Int) (hN : N ≤ 1073741824) (hp : -9223372036854775808 ≤ p) :
    Calls Try.prog 25 #[.slice A z c, .int .i64 N, .int .i64 p, .int .i64 n] w (GotG w (giveL l N p n) (giveB l N p n)) := by
  by_cases h : giveB l N p n = true
  · rcases Nat.eq_zero_or_pos z with h0 | h0
    · exact give_none w A l z c hz hA hl hok N p n hN h h0
    · exact give_some w A l z c hz hA hl hok N p n hN h h0
  · exact give_no w A l z c hz hA hl hok N p n hN hp (by simpa using h)
end Go.Proofs.Ytloiomfbmabfbaa
