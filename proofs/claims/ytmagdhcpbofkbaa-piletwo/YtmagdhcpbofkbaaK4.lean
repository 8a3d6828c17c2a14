/-
  The program's Give.
-/
import Derived.Test.YtmagdhcpbofkbaaK3
import Derived.Test.YtmagdhcpbofkbaaK1
namespace Go.Proofs.Ytmagdhcpbofkbaa
open Go.ChangeShapes Go.WideShapes Go.ChangeAt Go.RowKit Go.Deep
set_option linter.unusedVariables false
set_option maxRecDepth 20000

set_option maxHeartbeats 8000000 in
theorem give_none (w : World) (A : Option Addr) (l : List M.R) (z c : Nat) (hz : z = l.length) (hA : Runs w A l) (hl : z ≤ 4000000000) (hok : M.Ok (-1) 1073741824 l) (N p n : Int) (hN : N ≤ 1073741824) (hg : giveB l N p n = true) (h0 : z = 0) :
    Calls Try.prog 57 #[.slice A z c, .int .i64 N, .int .i64 p, .int .i64 n] w (GotGF w (giveL l N p n) (giveB l N p n)) := by
  have HR := Lib.hid (show giveL l N p n = M.give l p n ∧ giveB l N p n = true from ⟨by rw [giveL, if_pos hg], hg⟩)
  unfold giveB at hg
  simp only [Bool.and_eq_true, Bool.not_eq_true'] at hg
  obtain ⟨hf, hh⟩ := hg
  have hfb := (rfitsB_iff _ _ _).1 hf
  have hfits := fun W => rfits_any W p n N (by omega)
  rw [hf] at hfits
  have hhas := fun W h => has_any W A l z c hz h (by omega) hok p n (by omega) (by omega) (by omega)
  rw [hh] at hhas
  have HZ := Lib.hid hz
  have HA := Lib.hid hA
  have HO := Lib.hid hok
  have HH := Lib.hid hh
  have H0 := Lib.hid h0
  clear h0
  have HC := Lib.hid (And.intro hfits hhas)
  obtain ⟨g, hg⟩ : ∃ g, g = w.heap.size := ⟨_, rfl⟩
  have HGW := Lib.hid (show w.heap.size ≤ g from by omega)
  have x1 := Box.new w 34 p n
  rw [← hg] at x1
  have X1 := Lib.hid x1
  have HG := Lib.hid hg
  have B1 := Lib.hid (show Below w.heap.size w (w.alloc (.cells #[.int .i64 p, .int .i64 n] 34)) from (Below.refl _ _).alloc (Nat.le_refl _) _)
  clear hfits hhas hz hA hok hh hf x1 hg
  go_enter Try.func57, Try.ntmps57
  go_wp2_with (first
    | (go_at_call 73; refine (HC.out.1 _).mono ?_; rintro e w2 ⟨rfl, b2⟩; (have B2 := Lib.hid (below_call B1.out b2)); (have X2 := Lib.hid (X1.out.below b2)); clear b2)
    | (go_at_call 74; refine (HC.out.2 _ (HA.out.below B2.out)).mono ?_; rintro e w3 ⟨rfl, b3⟩))
  rw [← HG.out]
  have BW := Lib.hid (below_call B2.out b3)
  have BX := Lib.hid (X2.out.below b3)
  clear b3 B2 X2 X1 B1 HC
  obtain ⟨p0, hp0⟩ : ∃ p0, p0 = p := ⟨_, rfl⟩
  go_loop [11] (fun i => ∃ k : Nat, k ≤ z ∧ i = .int .i64 (k : Int)) (fun i => z - (intOf i).toNat)
  case atStart => exact ⟨0, by omega, rfl⟩
  case round =>
    obtain ⟨k, hk, rfl⟩ := hrel
    have hkz2 : ¬ k < z := by have := H0.out; omega
    have hkpos : ¬ 0 < k := by have := H0.out; omega
    have hgive : M.give l p n = l.take (M.fromA l k p) ++ (M.gB l k (M.gA l k p n) :: l.drop (M.toB l k (M.gA l k p n))) := by
      have e0 : k = M.cnt p l := M.cnt_of p l k (by have := HZ.out; omega) (fun j _ h => by omega) (fun h => by have := HZ.out; omega)
      rw [e0]; rfl
    have hfA : M.fromA l k p = k := by unfold M.fromA M.jA; simp [hkpos]
    have hgA : M.gA l k p n = ⟨p, n⟩ := by unfold M.gA M.jA; simp [hkpos]
    have GV := Lib.hid (show M.give l p n = l.take k ++ (M.gB l k ⟨p, n⟩ :: l.drop (M.toB l k ⟨p, n⟩)) by rw [hgive, hfA, hgA])
    clear hgive hfA hgA
    have HF := Lib.hid (show k ≤ k ∧ True from ⟨Nat.le_refl _, trivial⟩)
    go_wp2_with fail
    obtain ⟨ea, hea⟩ : ∃ ea, p + n = ea := ⟨_, rfl⟩
    have HE := Lib.hid (show p + n = ea ∧ -9223372036854775808 ≤ ea ∧ ea ≤ 9223372036854775807 from ⟨hea, by omega, by omega⟩)
    have hkl : ¬ k < l.length := by have := HZ.out; omega
    have hgB : M.gB l k ⟨p, n⟩ = ⟨p, n⟩ := by unfold M.gB M.jB; simp [hkl]
    have htB : M.toB l k ⟨p, n⟩ = k := by unfold M.toB M.jB; simp [hkl]
    have HGV := Lib.hid (show M.give l p n = l.take k ++ (⟨p, n⟩ :: l.drop k) by rw [GV.out, hgB, htB])
    clear hgB htB GV hkl hea
    go_cut [75] (fun v wx => v = .bool false ∧ Box wx g p n ∧ Below w.heap.size w wx)
    case first =>
      refine wp_region_noPanic ?_
      refine wp_region_held_drew (S := fun W => W.cell? ⟨g, 0, none⟩ = some (.int .i64 p) ∧ W.cell? ⟨g, 1, none⟩ = some (.int .i64 n)) (by kernel_rfl) (⟨BX.out.drew.c0, BX.out.drew.c1⟩) (fun hHeld => ?_)
      refine wpAnyH_take (i := 0) (oi := ({ dst := some 62, op := Op.move (Operand.tmp 12), type := 3, pos := "runs.go:99", after := #[], guard := none } : Oper)) (v := ?_) rfl (by kernel_rfl) (by kernel_rfl) (by kernel_rfl) (fun _ _ _ h => h) (Or.inl ⟨by rfl, ?_⟩) (by assumption) ?_
      rotate_left
      · (intro w hSw; (try dsimp only at hSw); go_simp) <;> with_reducible rfl
      (try simp only [Act.put, List.setIfInBounds_toArray, List.set_cons_zero, List.set_cons_succ])
      refine wpAnyH_take (i := 1) (oi := ({ dst := some 63, op := Op.move (Operand.tmp 0), type := 29, pos := "runs.go:99", after := #[], guard := none } : Oper)) (v := ?_) rfl (by kernel_rfl) (by kernel_rfl) (by kernel_rfl) (fun _ _ _ h => h) (Or.inl ⟨by rfl, ?_⟩) (by assumption) ?_
      rotate_left
      · (intro w hSw; (try dsimp only at hSw); go_simp) <;> with_reducible rfl
      (try simp only [Act.put, List.setIfInBounds_toArray, List.set_cons_zero, List.set_cons_succ])
      refine wpAnyH_take (i := 2) (oi := ({ dst := some 64, op := Op.call { callee := Callee.builtin Builtin.len, args := #[Operand.tmp 63], argTypes := #[29] }, type := 3, pos := "runs.go:99", after := #[{ on := 1, ground := Ground.data }], guard := none } : Oper)) (v := ?_) rfl (by kernel_rfl) (by kernel_rfl) (by kernel_rfl) (fun _ _ _ h => h) (Or.inl ⟨by rfl, ?_⟩) (by assumption) ?_
      rotate_left
      · (intro w hSw; (try dsimp only at hSw); go_simp) <;> with_reducible rfl
      (try simp only [Act.put, List.setIfInBounds_toArray, List.set_cons_zero, List.set_cons_succ])
      refine wpAnyH_take (i := 3) (oi := ({ dst := some 65, op := Op.binOp BinOp.lss 3 (Operand.tmp 62) (Operand.tmp 64) 3, type := 4, pos := "runs.go:99", after := #[{ on := 0, ground := Ground.data }, { on := 2, ground := Ground.data }], guard := none } : Oper)) (v := ?_) rfl (by kernel_rfl) (by kernel_rfl) (by kernel_rfl) (fun _ _ _ h => h) (Or.inl ⟨by rfl, ?_⟩) (by assumption) ?_
      rotate_left
      · (intro w hSw; (try dsimp only at hSw); go_simp) <;> with_reducible rfl
      (try simp only [Act.put, List.setIfInBounds_toArray, List.set_cons_zero, List.set_cons_succ])
      refine wpAnyH_take (i := 4) (oi := ({ dst := some 66, op := Op.move (Operand.tmp 65), type := 4, pos := "runs.go:99", after := #[{ on := 3, ground := Ground.data }], guard := none } : Oper)) (v := ?_) rfl (by kernel_rfl) (by kernel_rfl) (by kernel_rfl) (fun _ _ _ h => h) (Or.inl ⟨by rfl, ?_⟩) (by assumption) ?_
      rotate_left
      · (intro w hSw; (try dsimp only at hSw); go_simp) <;> with_reducible rfl
      (try simp only [Act.put, List.setIfInBounds_toArray, List.set_cons_zero, List.set_cons_succ])
      refine wpAnyH_take (i := 5) (oi := ({ dst := some 67, op := Op.move (Operand.tmp 0), type := 29, pos := "runs.go:99", after := #[{ on := 4, ground := Ground.guard }], guard := some (4, true) } : Oper)) (v := undef) rfl (by kernel_rfl) (by kernel_rfl) (by kernel_rfl) (fun _ _ _ h => h) (Or.inr ⟨by rfl, rfl⟩) (by assumption) ?_
      (try simp only [Act.put, List.setIfInBounds_toArray, List.set_cons_zero, List.set_cons_succ])
      refine wpAnyH_take (i := 6) (oi := ({ dst := some 68, op := Op.move (Operand.tmp 12), type := 3, pos := "runs.go:99", after := #[{ on := 4, ground := Ground.guard }], guard := some (4, true) } : Oper)) (v := undef) rfl (by kernel_rfl) (by kernel_rfl) (by kernel_rfl) (fun _ _ _ h => h) (Or.inr ⟨by rfl, rfl⟩) (by assumption) ?_
      (try simp only [Act.put, List.setIfInBounds_toArray, List.set_cons_zero, List.set_cons_succ])
      refine wpAnyH_take (i := 7) (oi := ({ dst := some 69, op := Op.indexAddr 29 (Operand.tmp 67) (Operand.tmp 68), type := 0, pos := "runs.go:99", after := #[{ on := 5, ground := Ground.data }, { on := 6, ground := Ground.data }, { on := 4, ground := Ground.guard }], guard := some (4, true) } : Oper)) (v := undef) rfl (by kernel_rfl) (by kernel_rfl) (by kernel_rfl) (fun _ _ _ h => h) (Or.inr ⟨by rfl, rfl⟩) (by assumption) ?_
      (try simp only [Act.put, List.setIfInBounds_toArray, List.set_cons_zero, List.set_cons_succ])
      refine wpAnyH_take (i := 8) (oi := ({ dst := some 70, op := Op.fieldAddr 34 (Operand.tmp 69) 0, type := 0, pos := "runs.go:99", after := #[{ on := 7, ground := Ground.data }, { on := 4, ground := Ground.guard }], guard := some (4, true) } : Oper)) (v := undef) rfl (by kernel_rfl) (by kernel_rfl) (by kernel_rfl) (fun _ _ _ h => h) (Or.inr ⟨by rfl, rfl⟩) (by assumption) ?_
      (try simp only [Act.put, List.setIfInBounds_toArray, List.set_cons_zero, List.set_cons_succ])
      refine wpAnyH_take (i := 9) (oi := ({ dst := some 71, op := Op.load 3 (Operand.tmp 70), type := 3, pos := "runs.go:99", after := #[{ on := 8, ground := Ground.data }, { on := 4, ground := Ground.guard }], guard := some (4, true) } : Oper)) (v := undef) rfl (by kernel_rfl) (by kernel_rfl) (by kernel_rfl) (fun _ _ _ h => h) (Or.inr ⟨by rfl, rfl⟩) (by assumption) ?_
      (try simp only [Act.put, List.setIfInBounds_toArray, List.set_cons_zero, List.set_cons_succ])
      refine wpAnyH_take (i := 10) (oi := ({ dst := some 72, op := Op.load 34 (Operand.tmp 10), type := 34, pos := "runs.go:99", after := #[{ on := 4, ground := Ground.guard }], guard := some (4, true) } : Oper)) (v := undef) rfl (by kernel_rfl) (by kernel_rfl) (by kernel_rfl) (fun _ _ _ h => h) (Or.inr ⟨by rfl, rfl⟩) (by assumption) ?_
      (try simp only [Act.put, List.setIfInBounds_toArray, List.set_cons_zero, List.set_cons_succ])
      refine wpAnyH_take (i := 11) (oi := ({ dst := some 73, op := Op.call { callee := Callee.value (Operand.func 75), args := #[Operand.tmp 72], argTypes := #[34] }, type := 3, pos := "runs.go:99", after := #[{ on := 10, ground := Ground.data }, { on := 4, ground := Ground.chain }, { on := 4, ground := Ground.guard }], guard := some (4, true) } : Oper)) (v := undef) rfl (by kernel_rfl) (by kernel_rfl) (by kernel_rfl) (fun _ _ _ h => h) (Or.inr ⟨by rfl, rfl⟩) (by assumption) ?_
      (try simp only [Act.put, List.setIfInBounds_toArray, List.set_cons_zero, List.set_cons_succ])
      refine wpAnyH_take (i := 12) (oi := ({ dst := some 74, op := Op.binOp BinOp.eql 3 (Operand.tmp 71) (Operand.tmp 73) 3, type := 4, pos := "runs.go:99", after := #[{ on := 9, ground := Ground.data }, { on := 11, ground := Ground.data }, { on := 4, ground := Ground.guard }], guard := some (4, true) } : Oper)) (v := undef) rfl (by kernel_rfl) (by kernel_rfl) (by kernel_rfl) (fun _ _ _ h => h) (Or.inr ⟨by rfl, rfl⟩) (by assumption) ?_
      (try simp only [Act.put, List.setIfInBounds_toArray, List.set_cons_zero, List.set_cons_succ])
      refine wpAnyH_take (i := 13) (oi := ({ dst := some 75, op := Op.pick (Operand.tmp 66) (Operand.tmp 74) (Operand.const (Value.bool false)), type := 4, pos := "runs.go:99", after := #[{ on := 4, ground := Ground.data }, { on := 12, ground := Ground.data }], guard := none } : Oper)) (v := ?_) rfl (by kernel_rfl) (by kernel_rfl) (by kernel_rfl) (fun _ _ _ h => h) (Or.inl ⟨by rfl, ?_⟩) (by assumption) ?_
      rotate_left
      · (intro w hSw; (try dsimp only at hSw); go_simp) <;> with_reducible rfl
      (try simp only [Act.put, List.setIfInBounds_toArray, List.set_cons_zero, List.set_cons_succ])
      refine wpAnyH_done (by kernel_rfl) ?_ _
      refine NoPanic.normal ?_
      go_wp2_with fail
      go_meet
      exact ⟨by first | rfl | (simp; omega), BX.out.drew, BW.out.drew⟩
    case rest =>
      obtain ⟨rfl, bx, bw⟩ := hcut
      have f0 := bx.c0
      have f1 := bx.c1
      have YW := Lib.hid bw
      clear bx bw
      go_wp2_with (go_at_call 77; refine (changed_put _ A l z c k k (k + 1 + (z - k)) p n HZ.out (HA.out.below YW.out) hl (by have := HF.out; omega) (by omega) rfl (by omega)).mono ?_; rintro e w9 ⟨A9, c9, rfl, hr9, hb9, hf9⟩)
      go_ret2
      refine ⟨A9, k + 1 + (z - k), c9, by rw [HR.out.2]; rfl, ?_, by rw [HR.out.1, HGV.out]; exact hr9, below_call YW.out hb9, hf9.mono YW.out.size⟩
      have := HZ.out
      have := HF.out
      rw [HR.out.1, HGV.out, List.length_append, List.length_take, List.length_cons, List.length_drop]
      omega

set_option maxHeartbeats 1000000 in
theorem give_no (w : World) (A : Option Addr) (l : List M.R) (z c : Nat) (hz : z = l.length) (hA : Runs w A l) (hl : z ≤ 4000000000) (hok : M.Ok (-1) 1073741824 l) (N p n : Int) (hN : N ≤ 1073741824) (hp : -9223372036854775808 ≤ p) (hg : giveB l N p n = false) :
    Calls Try.prog 57 #[.slice A z c, .int .i64 N, .int .i64 p, .int .i64 n] w (GotGF w (giveL l N p n) (giveB l N p n)) := by
  have HR := Lib.hid (show giveL l N p n = [] ∧ giveB l N p n = false from ⟨by rw [giveL, hg]; rfl, hg⟩)
  have HN := Lib.hid (show N ≤ 9223372036854775807 by omega)
  have B1 := Lib.hid (show Below w.heap.size w (w.alloc (.cells #[.int .i64 p, .int .i64 n] 34)) from (Below.refl _ _).alloc (Nat.le_refl _) _)
  have HA := Lib.hid hA
  clear hA
  unfold giveB at hg
  by_cases hf : rfitsB p n N = true
  · have hh : M.hasR l p n = true := by rw [hf] at hg; simpa using hg
    have hfb := (rfitsB_iff _ _ _).1 hf
    have hhas := fun W h => has_any W A l z c hz h (by omega) hok p n (by omega) (by omega) (by omega)
    rw [hh] at hhas
    have HC := Lib.hid hhas
    have HF := Lib.hid hf
    clear hhas hg hh hfb hf hok hz
    go_enter Try.func57, Try.ntmps57
    go_wp2_with (first
      | (go_at_call 73; refine (rfits_any _ p n N HN.out).mono ?_; rintro e w2 ⟨rfl, b2⟩; rw [HF.out]; (have B2 := Lib.hid (below_call B1.out b2)); clear b2)
      | (go_at_call 74; refine (HC.out _ (HA.out.below B2.out)).mono ?_; rintro e w3 ⟨rfl, b3⟩))
    go_ret2
    exact ⟨none, 0, 0, by rw [HR.out.2]; rfl, by rw [HR.out.1]; rfl, by rw [HR.out.1]; exact Runs.nil, below_call B2.out b3, fresh_none _⟩
  · have hf : rfitsB p n N = false := by simpa using hf
    have HF := Lib.hid hf
    clear hf hg hok hz
    go_enter Try.func57, Try.ntmps57
    go_wp2_with (go_at_call 73; refine (rfits_any _ p n N HN.out).mono ?_; rintro e w2 ⟨rfl, b2⟩; rw [HF.out]; (have B2 := Lib.hid (below_call B1.out b2)); clear b2)
    go_ret2
    exact ⟨none, 0, 0, by rw [HR.out.2]; rfl, by rw [HR.out.1]; rfl, by rw [HR.out.1]; exact Runs.nil, B2.out, fresh_none _⟩

theorem give_any (w : World) (A : Option Addr) (l : List M.R) (z c : Nat) (hz : z = l.length) (hA : Runs w A l) (hl : z ≤ 4000000000) (hok : M.Ok (-1) 1073741824 l) (N p n : Int) (hN : N ≤ 1073741824) (hp : -9223372036854775808 ≤ p) :
    Calls Try.prog 57 #[.slice A z c, .int .i64 N, .int .i64 p, .int .i64 n] w (GotGF w (giveL l N p n) (giveB l N p n)) := by
  by_cases h : giveB l N p n = true
  · rcases Nat.eq_zero_or_pos z with h0 | h0
    · exact give_none w A l z c hz hA hl hok N p n hN h h0
    · exact give_some w A l z c hz hA hl hok N p n hN h h0
  · exact give_no w A l z c hz hA hl hok N p n hN hp (by simpa using h)
end Go.Proofs.Ytmagdhcpbofkbaa
/-
  Take and Give of an Alloc.
-/
namespace Go.Proofs.Ytmagdhcpbofkbaa
open Go.ChangeShapes Go.WideShapes Go.ChangeAt Go.RowKit Go.Deep
set_option linter.unusedVariables false
set_option maxRecDepth 20000

def tkE (l : List M.R) (n : Int) : Int := if n < 1 then 1 else if takeB l n = true then 0 else 4
def tkL (l : List M.R) (n : Int) : List M.R := if takeB l n = true then takeL l n else l
def tkT (l : List M.R) (n T : Int) : Int := if takeB l n = true then T + 1 + l.length else T
def gvE (l : List M.R) (N p n : Int) : Int := if giveB l N p n = true then 0 else 1
def gvL (l : List M.R) (N p n : Int) : List M.R := if giveB l N p n = true then giveL l N p n else l
def gvT (l : List M.R) (N p n T : Int) : Int := if giveB l N p n = true then T + 1 + l.length else T
/-- What an Alloc answers, and how it stands then. -/
def GotA (w : World) (g : Nat) (P : Int) (l : List M.R) (T : Int) (v : Value) (e : Ending) (w' : World) : Prop := e = .returned v ∧ Has w' g P l T ∧ w.grownBy w' (some g)
theorem takeB_small {l : List M.R} {n : Int} (h : n < 1) : takeB l n = false := by
  unfold takeB
  rw [M.best_none h]
  rfl
theorem takeP_none {l : List M.R} {n : Int} (h : takeB l n = false) : takeP l n = 0 := by unfold takeP; rw [h]; rfl

/-- The list of its free runs is where it was, or in a new block. -/
def Moved (w w' : World) (g : Nat) : Prop := w'.cell? ⟨g, 1, none⟩ = w.cell? ⟨g, 1, none⟩ ∨ ∃ A' z' c', w'.cell? ⟨g, 1, none⟩ = some (.slice A' z' c') ∧ FreshR w.heap.size A'
set_option maxHeartbeats 2000000 in
theorem al_take3 (w : World) (g : Nat) (P : Int) (l : List M.R) (T : Int) (h : Has w g P l T) (hok : M.Ok (-1) P l) (h0 : 0 ≤ P) (hP : P ≤ 1048576) (hT0 : 0 ≤ T) (hT : T ≤ 1000000000000) (n : Int) :
    Calls Try.prog 50 #[.pointer (some ⟨g, 0, none⟩), .int .i64 n] w fun e w' => GotA w g P (tkL l n) (tkT l n T) (.tuple #[.int .i64 (takeP l n), .int .i64 (tkE l n)]) e w' ∧ Moved w w' g := by
  have HH := Lib.hid h
  obtain ⟨A, z, c, h, hz, hr⟩ := h
  have hl := M.len_le hok h0
  have HC := Lib.hid (take_any w A l z c hz hr (by omega) (hok.wide (by omega)) n)
  have c1 := h.c1
  have HA := Lib.hid (And.intro h (And.intro hz (show z ≤ 4000000000 by omega)))
  have HT := Lib.hid (And.intro hT0 hT)
  clear h hr hz hok hl h0 hP hT hT0
  by_cases hn : n < 1
  · have HF := Lib.hid (takeB_small (l := l) hn)
    go_enter Try.func50, Try.ntmps50
    go_wp2_with fail
    go_ret2
    refine ⟨⟨?_, ?_, World.grownBy.refl _ _⟩, .inl rfl⟩
    · rw [takeP_none HF.out, tkE, if_pos hn]; rfl
    · rw [tkL, tkT, HF.out]
      exact HH.out
  · go_enter Try.func50, Try.ntmps50
    go_wp2_with fail
    refine HC.out.mono ?_
    rintro e w1 ⟨A', t, c', rfl, ht, hR, hB, hF⟩
    have HB := Lib.hid (And.intro hB (And.intro hR ht))
    have HFR := Lib.hid hF
    clear hB hR ht hF
    rcases Bool.eq_false_or_eq_true (takeB l n) with hb | hb
    · have HE := Lib.hid (show tkE l n = 0 ∧ tkL l n = takeL l n ∧ tkT l n T = T + 1 + l.length from ⟨by rw [tkE, if_neg (by omega), if_pos hb], by rw [tkL, if_pos hb], by rw [tkT, if_pos hb]⟩)
      rw [hb] at *
      clear hb
      go_wp2_with fail
      refine (become_any w1 g P A z c T (HA.out.1.below HB.out.1) HA.out.2.2 HT.out.1 HT.out.2 A' t c').mono ?_
      rintro e w2 ⟨rfl, hal, hg⟩
      have HG := Lib.hid (And.intro hal hg)
      clear hal hg
      go_wp2_with fail
      go_ret2
      refine ⟨⟨?_, ?_, grown_go (grown_of HB.out.1 g) HG.out.2⟩, .inr ⟨A', t, c', HG.out.1.c1, HFR.out⟩⟩
      · rw [HE.out.1]; rfl
      · rw [HE.out.2.1, HE.out.2.2]
        have hz := HA.out.2.1
        exact ⟨A', t, c', by rw [← hz]; exact HG.out.1, HB.out.2.2, (HA.out.1.below HB.out.1).runs HB.out.2.1 HG.out.2⟩
    · have HE := Lib.hid (show tkE l n = 4 ∧ tkL l n = l ∧ tkT l n T = T ∧ takeP l n = 0 from ⟨by rw [tkE, if_neg (by omega), hb]; rfl, by rw [tkL, hb]; rfl, by rw [tkT, hb]; rfl, takeP_none hb⟩)
      rw [hb] at *
      clear hb
      go_wp2_with fail
      go_ret2
      refine ⟨⟨?_, ?_, grown_of HB.out.1 g⟩, .inl (HB.out.1.cell HA.out.1.lt)⟩
      · rw [HE.out.1, HE.out.2.2.2]; rfl
      · rw [HE.out.2.1, HE.out.2.2.1]
        exact HH.out.below HB.out.1
theorem al_take (w : World) (g : Nat) (P : Int) (l : List M.R) (T : Int) (h : Has w g P l T) (hok : M.Ok (-1) P l) (h0 : 0 ≤ P) (hP : P ≤ 1048576) (hT0 : 0 ≤ T) (hT : T ≤ 1000000000000) (n : Int) :
    Calls Try.prog 50 #[.pointer (some ⟨g, 0, none⟩), .int .i64 n] w (GotA w g P (tkL l n) (tkT l n T) (.tuple #[.int .i64 (takeP l n), .int .i64 (tkE l n)])) :=
  (al_take3 w g P l T h hok h0 hP hT0 hT n).mono fun e w' h => h.1

set_option maxHeartbeats 4000000 in
theorem al_give3 (w : World) (g : Nat) (P : Int) (l : List M.R) (T : Int) (h : Has w g P l T) (hok : M.Ok (-1) P l) (h0 : 0 ≤ P) (hP : P ≤ 1048576) (hT0 : 0 ≤ T) (hT : T ≤ 1000000000000) (p n : Int) (hp : -9223372036854775808 ≤ p) :
    Calls Try.prog 39 #[.pointer (some ⟨g, 0, none⟩), .int .i64 p, .int .i64 n] w fun e w' => GotA w g P (gvL l P p n) (gvT l P p n T) (.int .i64 (gvE l P p n)) e w' ∧ Moved w w' g := by
  have HH := Lib.hid h
  obtain ⟨A, z, c, h, hz, hr⟩ := h
  have hl := M.len_le hok h0
  have HC := Lib.hid (give_any w.drew A l z c hz hr.drew (by omega) (hok.wide (by omega)) P p n (by omega) hp)
  have d0 : w.drew.cell? ⟨g, 0, none⟩ = some (.int .i64 P) := h.c0
  have d1 : w.drew.cell? ⟨g, 1, none⟩ = some (.slice A z c) := h.c1
  have HA := Lib.hid (And.intro h (And.intro hz (show z ≤ 4000000000 by omega)))
  have HT := Lib.hid (And.intro hT0 hT)
  have HS := Lib.hid (show ∀ W, Below w.heap.size w W → W.cell? ⟨g, 0, none⟩ = some (.int .i64 P) ∧ W.cell? ⟨g, 1, none⟩ = some (.slice A z c) from fun W hW => ⟨(h.below hW).c0, (h.below hW).c1⟩)
  clear h hr hz hok hl h0 hP hT hT0 hp
  obtain ⟨b, hb⟩ : ∃ b, b = giveB l P p n := ⟨_, rfl⟩
  have HBB := Lib.hid hb
  rw [← hb] at HC
  clear hb
  go_enter Try.func39, Try.ntmps39
  go_wp2_with fail
  refine wp_region_noPanic ?_
  refine wp_region_held_drew (S := fun W => W.cell? ⟨g, 0, none⟩ = some (.int .i64 P) ∧ W.cell? ⟨g, 1, none⟩ = some (.slice A z c)) (by kernel_rfl) (⟨d0, d1⟩) (fun hHeld => ?_)
  refine wpAnyH_take (i := 0) (oi := ({ dst := some 12, op := Op.move (Operand.tmp 0), type := 55, pos := "pagerun.go:42", after := #[], guard := none } : Oper)) (v := ?_) rfl (by kernel_rfl) (by kernel_rfl) (by kernel_rfl) (fun _ _ _ h => h) (Or.inl ⟨by rfl, ?_⟩) (by assumption) ?_
  rotate_left
  · (intro w hSw; (try dsimp only at hSw); go_simp) <;> with_reducible rfl
  (try simp only [Act.put, List.setIfInBounds_toArray, List.set_cons_zero, List.set_cons_succ])
  refine wpAnyH_take (i := 1) (oi := ({ dst := some 13, op := Op.nilCheck (Operand.tmp 12), type := 0, pos := "pagerun.go:42", after := #[{ on := 0, ground := Ground.data }], guard := none } : Oper)) (v := ?_) rfl (by kernel_rfl) (by kernel_rfl) (by kernel_rfl) (fun _ _ _ h => h) (Or.inl ⟨by rfl, ?_⟩) (by assumption) ?_
  rotate_left
  · (intro w hSw; (try dsimp only at hSw); go_simp) <;> with_reducible rfl
  (try simp only [Act.put, List.setIfInBounds_toArray, List.set_cons_zero, List.set_cons_succ])
  refine wpAnyH_take (i := 2) (oi := ({ dst := some 14, op := Op.fieldAddr 75 (Operand.tmp 13) 1, type := 0, pos := "pagerun.go:42", after := #[{ on := 1, ground := Ground.data }], guard := none } : Oper)) (v := ?_) rfl (by kernel_rfl) (by kernel_rfl) (by kernel_rfl) (fun _ _ _ h => h) (Or.inl ⟨by rfl, ?_⟩) (by assumption) ?_
  rotate_left
  · (intro w hSw; (try dsimp only at hSw); go_simp) <;> with_reducible rfl
  (try simp only [Act.put, List.setIfInBounds_toArray, List.set_cons_zero, List.set_cons_succ])
  refine wpAnyH_take (i := 3) (oi := ({ dst := some 15, op := Op.load 29 (Operand.tmp 14), type := 29, pos := "pagerun.go:42", after := #[{ on := 2, ground := Ground.data }], guard := none } : Oper)) (v := ?_) rfl (by kernel_rfl) (by kernel_rfl) (by kernel_rfl) (fun _ _ _ h => h) (Or.inl ⟨by rfl, ?_⟩) (by assumption) ?_
  rotate_left
  · (intro w hSw; (try dsimp only at hSw); go_simp) <;> with_reducible rfl
  (try simp only [Act.put, List.setIfInBounds_toArray, List.set_cons_zero, List.set_cons_succ])
  refine wpAnyH_take (i := 4) (oi := ({ dst := some 16, op := Op.move (Operand.tmp 0), type := 55, pos := "pagerun.go:42", after := #[], guard := none } : Oper)) (v := ?_) rfl (by kernel_rfl) (by kernel_rfl) (by kernel_rfl) (fun _ _ _ h => h) (Or.inl ⟨by rfl, ?_⟩) (by assumption) ?_
  rotate_left
  · (intro w hSw; (try dsimp only at hSw); go_simp) <;> with_reducible rfl
  (try simp only [Act.put, List.setIfInBounds_toArray, List.set_cons_zero, List.set_cons_succ])
  refine wpAnyH_take (i := 5) (oi := ({ dst := some 17, op := Op.nilCheck (Operand.tmp 16), type := 0, pos := "pagerun.go:42", after := #[{ on := 4, ground := Ground.data }], guard := none } : Oper)) (v := ?_) rfl (by kernel_rfl) (by kernel_rfl) (by kernel_rfl) (fun _ _ _ h => h) (Or.inl ⟨by rfl, ?_⟩) (by assumption) ?_
  rotate_left
  · (intro w hSw; (try dsimp only at hSw); go_simp) <;> with_reducible rfl
  (try simp only [Act.put, List.setIfInBounds_toArray, List.set_cons_zero, List.set_cons_succ])
  refine wpAnyH_take (i := 6) (oi := ({ dst := some 18, op := Op.fieldAddr 75 (Operand.tmp 17) 0, type := 0, pos := "pagerun.go:42", after := #[{ on := 5, ground := Ground.data }], guard := none } : Oper)) (v := ?_) rfl (by kernel_rfl) (by kernel_rfl) (by kernel_rfl) (fun _ _ _ h => h) (Or.inl ⟨by rfl, ?_⟩) (by assumption) ?_
  rotate_left
  · (intro w hSw; (try dsimp only at hSw); go_simp) <;> with_reducible rfl
  (try simp only [Act.put, List.setIfInBounds_toArray, List.set_cons_zero, List.set_cons_succ])
  refine wpAnyH_take (i := 7) (oi := ({ dst := some 19, op := Op.load 3 (Operand.tmp 18), type := 3, pos := "pagerun.go:42", after := #[{ on := 6, ground := Ground.data }], guard := none } : Oper)) (v := ?_) rfl (by kernel_rfl) (by kernel_rfl) (by kernel_rfl) (fun _ _ _ h => h) (Or.inl ⟨by rfl, ?_⟩) (by assumption) ?_
  rotate_left
  · (intro w hSw; (try dsimp only at hSw); go_simp) <;> with_reducible rfl
  (try simp only [Act.put, List.setIfInBounds_toArray, List.set_cons_zero, List.set_cons_succ])
  refine wpAnyH_take (i := 8) (oi := ({ dst := some 20, op := Op.move (Operand.tmp 1), type := 3, pos := "pagerun.go:42", after := #[], guard := none } : Oper)) (v := ?_) rfl (by kernel_rfl) (by kernel_rfl) (by kernel_rfl) (fun _ _ _ h => h) (Or.inl ⟨by rfl, ?_⟩) (by assumption) ?_
  rotate_left
  · (intro w hSw; (try dsimp only at hSw); go_simp) <;> with_reducible rfl
  (try simp only [Act.put, List.setIfInBounds_toArray, List.set_cons_zero, List.set_cons_succ])
  refine wpAnyH_take (i := 9) (oi := ({ dst := some 21, op := Op.move (Operand.tmp 2), type := 3, pos := "pagerun.go:42", after := #[], guard := none } : Oper)) (v := ?_) rfl (by kernel_rfl) (by kernel_rfl) (by kernel_rfl) (fun _ _ _ h => h) (Or.inl ⟨by rfl, ?_⟩) (by assumption) ?_
  rotate_left
  · (intro w hSw; (try dsimp only at hSw); go_simp) <;> with_reducible rfl
  (try simp only [Act.put, List.setIfInBounds_toArray, List.set_cons_zero, List.set_cons_succ])
  refine wpAnyH_ready (rs := [10]) (by kernel_rfl) (by simp) ?_
  refine AllReadyH.cons (o := ({ dst := some 22, op := Op.call { callee := Callee.value (Operand.func 57), args := #[Operand.tmp 15, Operand.tmp 19, Operand.tmp 20, Operand.tmp 21], argTypes := #[29, 3, 3, 3] }, type := 107, pos := "pagerun.go:42", after := #[{ on := 3, ground := Ground.data }, { on := 7, ground := Ground.data }, { on := 8, ground := Ground.data }, { on := 9, ground := Ground.data }], guard := none } : Oper)) rfl (fun K hK => ?_) ?_
  · go_simp
    refine HC.out.mono ?_
    rintro e w1 ⟨A', t, c', rfl, ht, hR, hB, hF⟩
    have HFR := Lib.hid (show FreshR w.heap.size A' from hF)
    clear hF
    have HB := Lib.hid (And.intro (drew_call hB) (And.intro hR ht))
    clear hB hR ht
    go_wp2_with fail
    refine hK.out _ _ ?_ (fun hHeld => ?_)
    · exact HS.out _ HB.out.1
    clear hK K
    (try simp only [Act.put, List.setIfInBounds_toArray, List.set_cons_zero, List.set_cons_succ])
    refine wpAnyH_take (i := 11) (oi := ({ dst := some 11, op := Op.move (Operand.tmp 22), type := 107, pos := "pagerun.go:42", after := #[{ on := 10, ground := Ground.data }], guard := none } : Oper)) (v := ?_) rfl (by kernel_rfl) (by kernel_rfl) (by kernel_rfl) (fun _ _ _ h => h) (Or.inl ⟨by rfl, ?_⟩) (by assumption) ?_
    rotate_left
    · (intro w hSw; (try dsimp only at hSw); go_simp) <;> with_reducible rfl
    (try simp only [Act.put, List.setIfInBounds_toArray, List.set_cons_zero, List.set_cons_succ])
    refine wpAnyH_take (i := 12) (oi := ({ dst := some 23, op := Op.extract (Operand.tmp 11) 0, type := 29, pos := "pagerun.go:42", after := #[{ on := 11, ground := Ground.data }], guard := none } : Oper)) (v := ?_) rfl (by kernel_rfl) (by kernel_rfl) (by kernel_rfl) (fun _ _ _ h => h) (Or.inl ⟨by rfl, ?_⟩) (by assumption) ?_
    rotate_left
    · (intro w hSw; (try dsimp only at hSw); go_simp) <;> with_reducible rfl
    (try simp only [Act.put, List.setIfInBounds_toArray, List.set_cons_zero, List.set_cons_succ])
    refine wpAnyH_take (i := 13) (oi := ({ dst := some 24, op := Op.extract (Operand.tmp 11) 1, type := 4, pos := "pagerun.go:42", after := #[{ on := 11, ground := Ground.data }, { on := 14, ground := Ground.gcOnly Departure.lateStores }], guard := none } : Oper)) (v := ?_) rfl (by kernel_rfl) (by kernel_rfl) (by kernel_rfl) (fun _ _ _ h => h) (Or.inl ⟨by rfl, ?_⟩) (by assumption) ?_
    rotate_left
    · (intro w hSw; (try dsimp only at hSw); go_simp) <;> with_reducible rfl
    (try simp only [Act.put, List.setIfInBounds_toArray, List.set_cons_zero, List.set_cons_succ])
    refine wpAnyH_take (i := 14) (oi := ({ dst := some 7, op := Op.assign (Operand.tmp 23), type := 29, pos := "pagerun.go:42", after := #[{ on := 12, ground := Ground.data }, { on := 10, ground := Ground.chain }, { on := 0, ground := Ground.phase }, { on := 1, ground := Ground.phase }, { on := 2, ground := Ground.phase }, { on := 3, ground := Ground.phase }, { on := 4, ground := Ground.phase }, { on := 5, ground := Ground.phase }, { on := 6, ground := Ground.phase }, { on := 7, ground := Ground.phase }, { on := 8, ground := Ground.phase }, { on := 9, ground := Ground.phase }, { on := 10, ground := Ground.phase }, { on := 11, ground := Ground.phase }, { on := 12, ground := Ground.phase }, { on := 13, ground := Ground.textOnly Departure.lateStores }], guard := none } : Oper)) (v := ?_) rfl (by kernel_rfl) (by kernel_rfl) (by kernel_rfl) (fun _ _ _ h => h) (Or.inl ⟨by rfl, ?_⟩) (by assumption) ?_
    rotate_left
    · (intro w hSw; (try dsimp only at hSw); go_simp) <;> with_reducible rfl
    (try simp only [Act.put, List.setIfInBounds_toArray, List.set_cons_zero, List.set_cons_succ])
    refine wpAnyH_take (i := 15) (oi := ({ dst := some 8, op := Op.assign (Operand.tmp 24), type := 4, pos := "pagerun.go:42", after := #[{ on := 13, ground := Ground.data }, { on := 14, ground := Ground.chain }, { on := 0, ground := Ground.phase }, { on := 1, ground := Ground.phase }, { on := 2, ground := Ground.phase }, { on := 3, ground := Ground.phase }, { on := 4, ground := Ground.phase }, { on := 5, ground := Ground.phase }, { on := 6, ground := Ground.phase }, { on := 7, ground := Ground.phase }, { on := 8, ground := Ground.phase }, { on := 9, ground := Ground.phase }, { on := 10, ground := Ground.phase }, { on := 11, ground := Ground.phase }, { on := 12, ground := Ground.phase }, { on := 13, ground := Ground.phase }, { on := 14, ground := Ground.phase }], guard := none } : Oper)) (v := ?_) rfl (by kernel_rfl) (by kernel_rfl) (by kernel_rfl) (fun _ _ _ h => h) (Or.inl ⟨by rfl, ?_⟩) (by assumption) ?_
    rotate_left
    · (intro w hSw; (try dsimp only at hSw); go_simp) <;> with_reducible rfl
    (try simp only [Act.put, List.setIfInBounds_toArray, List.set_cons_zero, List.set_cons_succ])
    refine wpAnyH_done (by kernel_rfl) ?_ _
    refine NoPanic.normal ?_
    cases b with
    | true =>
      have hb := HBB.out.symm
      have HE := Lib.hid (show gvE l P p n = 0 ∧ gvL l P p n = giveL l P p n ∧ gvT l P p n T = T + 1 + l.length from ⟨by rw [gvE, if_pos hb], by rw [gvL, if_pos hb], by rw [gvT, if_pos hb]⟩)
      clear hb
      go_wp2_with fail
      refine (become_any w1 g P A z c T (HA.out.1.below HB.out.1) HA.out.2.2 HT.out.1 HT.out.2 A' t c').mono ?_
      rintro e w2 ⟨rfl, hal, hg⟩
      have HG := Lib.hid (And.intro hal hg)
      clear hal hg
      go_wp2_with fail
      go_ret
      refine ⟨⟨?_, ?_, grown_go (grown_of HB.out.1 g) HG.out.2⟩, .inr ⟨A', t, c', HG.out.1.c1, HFR.out⟩⟩
      · rw [HE.out.1]; rfl
      · rw [HE.out.2.1, HE.out.2.2]
        have hz := HA.out.2.1
        exact ⟨A', t, c', by rw [← hz]; exact HG.out.1, HB.out.2.2, (HA.out.1.below HB.out.1).runs HB.out.2.1 HG.out.2⟩
    | false =>
      have hb := HBB.out.symm
      have HE := Lib.hid (show gvE l P p n = 1 ∧ gvL l P p n = l ∧ gvT l P p n T = T from ⟨by rw [gvE, hb]; rfl, by rw [gvL, hb]; rfl, by rw [gvT, hb]; rfl⟩)
      clear hb
      go_wp2_with fail
      go_ret
      refine ⟨⟨?_, ?_, grown_of HB.out.1 g⟩, .inl (HB.out.1.cell HA.out.1.lt)⟩
      · rw [HE.out.1]; rfl
      · rw [HE.out.2.1, HE.out.2.2]
        exact HH.out.below HB.out.1
  exact AllReadyH.nil
theorem al_give (w : World) (g : Nat) (P : Int) (l : List M.R) (T : Int) (h : Has w g P l T) (hok : M.Ok (-1) P l) (h0 : 0 ≤ P) (hP : P ≤ 1048576) (hT0 : 0 ≤ T) (hT : T ≤ 1000000000000) (p n : Int) (hp : -9223372036854775808 ≤ p) :
    Calls Try.prog 39 #[.pointer (some ⟨g, 0, none⟩), .int .i64 p, .int .i64 n] w (GotA w g P (gvL l P p n) (gvT l P p n T) (.int .i64 (gvE l P p n))) :=
  (al_give3 w g P l T h hok h0 hP hT0 hT p n hp).mono fun e w' h => h.1
end Go.Proofs.Ytmagdhcpbofkbaa
/-
  What follows for the laws: what was taken can be given back; pages given back in two parts.
-/
namespace Go.Proofs.Ytmagdhcpbofkbaa
open Go.ChangeShapes Go.WideShapes Go.ChangeAt Go.RowKit Go.Deep
set_option linter.unusedVariables false
set_option maxRecDepth 20000

theorem taken {l : List M.R} {n : Int} (h : takeB l n = true) : ∃ (k : Nat) (hk : k < l.length), M.best n l = k ∧ 1 ≤ n ∧ n ≤ (l.getD k ⟨0, 0⟩).n ∧ takeP l n = (l.getD k ⟨0, 0⟩).p ∧ takeL l n = M.left l k n := by
  have hb := M.best_is n l
  have h0 : 0 ≤ M.best n l := by unfold takeB at h; simpa using h
  obtain ⟨k, hk, e, h1, h2, _⟩ := hb.pos h0
  refine ⟨k, hk, e, h1, by rw [M.getD_at l k hk]; exact h2, by rw [takeP, if_pos h, e]; rfl, by rw [takeL, if_pos h, e]; rfl⟩
theorem take_none {l : List M.R} {n : Int} (h : takeB l n = false) : takeL l n = [] ∧ takeP l n = 0 ∧ (n < 1 ∨ ∀ r ∈ l, r.n < n) := by
  refine ⟨by rw [takeL, h]; rfl, by rw [takeP, h]; rfl, ?_⟩
  have hb := M.best_is n l
  refine hb.neg ?_
  unfold takeB at h
  simp at h
  omega
theorem takeL_length {l : List M.R} {n : Int} : (takeL l n).length ≤ l.length := by
  by_cases h : takeB l n = true
  · obtain ⟨k, hk, _, _, _, _, e⟩ := taken h
    rw [e]
    exact M.left_length hk
  · rw [(take_none (by simpa using h)).1]
    simp
theorem giveL_length {l : List M.R} {N p n : Int} : (giveL l N p n).length ≤ l.length + 1 := by
  unfold giveL
  split
  · exact M.give_length
  · simp
/-- What is given back is right, and has these pages too. -/
theorem given {l : List M.R} {N p n : Int} (hok : M.Ok (-1) 1073741824 l) (hN : N ≤ 1073741824) (h : giveB l N p n = true) :
    0 ≤ p ∧ 1 ≤ n ∧ p + n ≤ N ∧ M.hasR l p n = false ∧ M.Ok (-1) 1073741824 (giveL l N p n) ∧ M.total (giveL l N p n) = M.total l + n ∧ ∀ x, M.Pg (giveL l N p n) x ↔ M.Pg l x ∨ (p ≤ x ∧ x < p + n) := by
  have h' := h
  unfold giveB at h
  simp only [Bool.and_eq_true, Bool.not_eq_true'] at h
  obtain ⟨hf, hh⟩ := h
  obtain ⟨h1, h2, h3⟩ := (rfitsB_iff _ _ _).1 hf
  have := M.give_ok hok h1 h2 (by omega : p + n ≤ 1073741824) hh
  rw [giveL, if_pos h']
  exact ⟨h1, h2, h3, hh, this⟩
theorem giveB_of {l : List M.R} {N p n : Int} (h1 : 0 ≤ p) (h2 : 1 ≤ n) (h3 : p + n ≤ N) : giveB l N p n = !M.hasR l p n := by
  unfold giveB
  rw [(rfitsB_iff _ _ _).2 ⟨h1, h2, h3⟩, Bool.true_and]

theorem back_facts {l : List M.R} {n : Int} (hok : M.Ok (-1) 1073741824 l) (h : takeB l n = true) :
    M.Ok (-1) 1073741824 (takeL l n) ∧ M.okB (-1) 1073741824 (takeL l n) = true ∧ M.total (takeL l n) = M.total l - n ∧ M.hasR (takeL l n) (takeP l n) n = false ∧ M.hasR l (takeP l n) n = true ∧
    giveB (takeL l n) 1073741824 (takeP l n) n = true ∧ giveL (takeL l n) 1073741824 (takeP l n) n = l ∧ 0 ≤ takeP l n ∧ takeP l n ≤ 1073741824 ∧ 1 ≤ n ∧ n ≤ 1073741824 := by
  obtain ⟨k, hk, _, h1, h2, eP, eL⟩ := taken h
  have hm := hok.mem _ (M.getD_mem l k hk)
  have hl := M.left_ok hok k hk n h1 h2
  rw [← eL, ← eP] at hl
  rw [← eP] at hm
  have hno : M.hasR (takeL l n) (takeP l n) n = false := (M.hasR_not hl.1 _ _ h1).2 (fun x hx1 hx2 hx3 => hl.2.2.2 x hx3 ⟨hx1, hx2⟩)
  have hyes : M.hasR l (takeP l n) n = true := (M.has_pg hok _ _ h1).2 ⟨takeP l n, by omega, by omega, (hl.2.2.1 _).2 (.inr ⟨by omega, by omega⟩)⟩
  have hgb : giveB (takeL l n) 1073741824 (takeP l n) n = true := by rw [giveB_of hm.2.1 h1 (by omega), hno]; rfl
  have hg := given hl.1 (Int.le_refl _) hgb
  refine ⟨hl.1, (M.okB_iff _ _ _).2 hl.1, hl.2.1, hno, hyes, hgb, ?_, hm.2.1, by omega, h1, by omega⟩
  exact M.uniq _ _ _ _ _ _ hg.2.2.2.2.1 hok (fun x => by rw [hg.2.2.2.2.2.2 x, hl.2.2.1 x])

theorem two_facts {l : List M.R} {p n k : Int} (hok : M.Ok (-1) 1073741824 l) (hp : 0 ≤ p) (hk : 1 ≤ k) (hkn : k < n) (hN : p + n ≤ 1073741824) :
    (giveB l 1073741824 (p + k) (n - k) = false → giveB l 1073741824 p n = false) ∧
    (giveB l 1073741824 (p + k) (n - k) = true → giveB (giveL l 1073741824 (p + k) (n - k)) 1073741824 p k = giveB l 1073741824 p n) ∧
    (giveB l 1073741824 (p + k) (n - k) = true → giveB l 1073741824 p n = true → giveL l 1073741824 p n = giveL (giveL l 1073741824 (p + k) (n - k)) 1073741824 p k ∧ M.total (giveL l 1073741824 p n) = M.total l + n) := by
  rw [giveB_of (l := l) (by omega) (by omega) (by omega : p + k + (n - k) ≤ 1073741824), giveB_of (l := l) hp (by omega) hN, giveB_of hp hk (by omega)]
  have e1 : M.hasR l p n = false → M.hasR l (p + k) (n - k) = false := fun h => by
    rw [M.hasR_not hok _ _ (by omega)] at h ⊢
    intro x h1 h2
    exact h x (by omega) (by omega)
  refine ⟨fun h => ?_, fun h => ?_, fun h h' => ?_⟩
  · rcases Bool.eq_false_or_eq_true (M.hasR l p n) with h1 | h1
    · rw [h1]; rfl
    · rw [e1 h1] at h; cases h
  · have hgb : giveB l 1073741824 (p + k) (n - k) = true := by rw [giveB_of (by omega) (by omega) (by omega)]; exact h
    have hg := given hok (Int.le_refl _) hgb
    have hh : M.hasR l (p + k) (n - k) = false := hg.2.2.2.1
    congr 1
    rw [Bool.eq_iff_iff, M.has_pg hg.2.2.2.2.1 _ _ hk, M.has_pg hok _ _ (by omega)]
    rw [M.hasR_not hok _ _ (by omega)] at hh
    constructor
    · rintro ⟨x, h1, h2, h3⟩
      rcases (hg.2.2.2.2.2.2 x).1 h3 with h4 | h4
      · exact ⟨x, h1, by omega, h4⟩
      · omega
    · rintro ⟨x, h1, h2, h3⟩
      rcases Int.lt_or_le x (p + k) with h4 | h4
      · exact ⟨x, h1, h4, (hg.2.2.2.2.2.2 x).2 (.inl h3)⟩
      · exact absurd h3 (hh x h4 (by omega))
  · have hgb : giveB l 1073741824 (p + k) (n - k) = true := by rw [giveB_of (by omega) (by omega) (by omega)]; exact h
    have hga : giveB l 1073741824 p n = true := by rw [giveB_of hp (by omega) hN]; exact h'
    have hg := given hok (Int.le_refl _) hgb
    have ha := given hok (Int.le_refl _) hga
    have hh : M.hasR l p n = false := ha.2.2.2.1
    have hbk : M.hasR (giveL l 1073741824 (p + k) (n - k)) p k = false := by
      rw [M.hasR_not hok _ _ (by omega)] at hh
      rw [M.hasR_not hg.2.2.2.2.1 _ _ hk]
      intro x h1 h2 h3
      rcases (hg.2.2.2.2.2.2 x).1 h3 with h4 | h4
      · exact hh x h1 (by omega) h4
      · omega
    have hgc : giveB (giveL l 1073741824 (p + k) (n - k)) 1073741824 p k = true := by rw [giveB_of hp hk (by omega), hbk]; rfl
    have hc := given hg.2.2.2.2.1 (Int.le_refl _) hgc
    refine ⟨M.uniq _ _ _ _ _ _ ha.2.2.2.2.1 hc.2.2.2.2.1 (fun x => ?_), ha.2.2.2.2.2.1⟩
    rw [ha.2.2.2.2.2.2 x, hc.2.2.2.2.2.2 x, hg.2.2.2.2.2.2 x]
    constructor
    · rintro (h1 | h1)
      · exact .inl (.inl h1)
      · by_cases h2 : x < p + k
        · exact .inr (by omega)
        · exact .inl (.inr (by omega))
    · rintro ((h1 | h1) | h1)
      · exact .inl h1
      · exact .inr (by omega)
      · exact .inr (by omega)
end Go.Proofs.Ytmagdhcpbofkbaa
/-
  Steps of an Alloc: what pages are free behind them.
-/
namespace Go.Proofs.Ytmagdhcpbofkbaa
open Go.ChangeShapes Go.WideShapes Go.ChangeAt Go.RowKit Go.Deep
set_option linter.unusedVariables false
set_option maxRecDepth 20000

theorem take_step {P : Int} {l : List M.R} {n : Int} (hok : M.Ok (-1) P l) (h : takeB l n = true) :
    M.Ok (-1) P (takeL l n) ∧ M.total (takeL l n) = M.total l - n ∧ (∀ x, M.Pg (takeL l n) x ↔ M.Pg l x ∧ ¬ (takeP l n ≤ x ∧ x < takeP l n + n)) ∧
    (∀ x, takeP l n ≤ x → x < takeP l n + n → M.Pg l x) ∧ 1 ≤ n ∧ 0 ≤ takeP l n ∧ takeP l n + n ≤ P := by
  obtain ⟨k, hk, _, h1, h2, eP, eL⟩ := taken h
  have hm := hok.mem _ (M.getD_mem l k hk)
  have hl := M.left_ok hok k hk n h1 h2
  rw [← eL, ← eP] at hl
  rw [← eP] at hm
  refine ⟨hl.1, hl.2.1, fun x => ⟨fun hx => ⟨(hl.2.2.1 x).2 (.inl hx), hl.2.2.2 x hx⟩, fun ⟨hx, hn⟩ => ((hl.2.2.1 x).1 hx).resolve_right hn⟩, fun x ha hb => (hl.2.2.1 x).2 (.inr ⟨ha, hb⟩), h1, by omega, by omega⟩
theorem give_step {P : Int} {l : List M.R} {p n : Int} (hok : M.Ok (-1) P l) (h : giveB l P p n = true) :
    M.Ok (-1) P (giveL l P p n) ∧ M.total (giveL l P p n) = M.total l + n ∧ (∀ x, M.Pg (giveL l P p n) x ↔ M.Pg l x ∨ (p ≤ x ∧ x < p + n)) ∧
    (∀ x, p ≤ x → x < p + n → ¬ M.Pg l x) ∧ 1 ≤ n ∧ 0 ≤ p ∧ p + n ≤ P := by
  have h' := h
  unfold giveB at h
  simp only [Bool.and_eq_true, Bool.not_eq_true'] at h
  obtain ⟨hf, hh⟩ := h
  obtain ⟨h1, h2, h3⟩ := (rfitsB_iff _ _ _).1 hf
  have := M.give_ok hok h1 h2 h3 hh
  rw [giveL, if_pos h']
  exact ⟨this.1, this.2.1, this.2.2, (M.hasR_not hok _ _ h2).1 hh, h2, h1, h3⟩
/-- How an Alloc stands behind some calls. -/
structure Fit (P : Int) (l : List M.R) (T : Int) (k : Nat) : Prop where
  ok : M.Ok (-1) P l
  len : l.length ≤ k + 1
  t0 : 0 ≤ T
  t1 : T ≤ k * 2000000
theorem Fit.new (P : Int) (h : 1 ≤ P) : Fit P [⟨0, P⟩] 0 0 := ⟨⟨by simp, by simp, h, by simp, trivial⟩, by simp, by omega, by omega⟩
theorem len_big {P : Int} {l : List M.R} (hok : M.Ok (-1) P l) (h0 : 0 ≤ P) (hP : P ≤ 1048576) : (l.length : Int) ≤ 1048577 := by
  have := M.len_le hok h0
  omega
theorem Fit.take {P : Int} {l : List M.R} {T : Int} {k : Nat} (h : Fit P l T k) (h0 : 0 ≤ P) (hP : P ≤ 1048576) (n : Int) : Fit P (tkL l n) (tkT l n T) (k + 1) := by
  have hb := len_big h.ok h0 hP
  have h1 := h.len
  have h2 := h.t0
  have h3 := h.t1
  unfold tkL tkT
  by_cases hc : takeB l n = true
  · rw [if_pos hc, if_pos hc]
    have := takeL_length (l := l) (n := n)
    exact ⟨(take_step h.ok hc).1, by omega, by omega, by omega⟩
  · rw [if_neg hc, if_neg hc]
    exact ⟨h.ok, by omega, by omega, by omega⟩
theorem Fit.give {P : Int} {l : List M.R} {T : Int} {k : Nat} (h : Fit P l T k) (h0 : 0 ≤ P) (hP : P ≤ 1048576) (p n : Int) : Fit P (gvL l P p n) (gvT l P p n T) (k + 1) := by
  have hb := len_big h.ok h0 hP
  have h1 := h.len
  have h2 := h.t0
  have h3 := h.t1
  unfold gvL gvT
  by_cases hc : giveB l P p n = true
  · rw [if_pos hc, if_pos hc]
    have := giveL_length (l := l) (N := P) (p := p) (n := n)
    exact ⟨(give_step h.ok hc).1, by omega, by omega, by omega⟩
  · rw [if_neg hc, if_neg hc]
    exact ⟨h.ok, by omega, by omega, by omega⟩
theorem Fit.one {P : Int} {l : List M.R} {T : Int} {k : Nat} (h : Fit P l T k) : Fit P l T (k + 1) := ⟨h.ok, by have := h.len; omega, h.t0, by have := h.t1; omega⟩
/-- There is room just if the longest run has so many pages. -/
theorem takeB_most {l : List M.R} {n : Int} (hn : 1 ≤ n) : takeB l n = decide (n ≤ M.most l) := by
  rcases Bool.eq_false_or_eq_true (takeB l n) with h | h
  · obtain ⟨k, hk, _, h1, h2, eP, eL⟩ := taken h
    have := M.le_most (M.getD_mem l k hk)
    rw [h]
    simp; omega
  · have := (take_none h).2.2
    rw [h]
    rcases this with h1 | h1
    · omega
    · have : ¬ n ≤ M.most l := fun hle => by
        obtain ⟨r, hr, e⟩ := M.most_is (l := l) (by omega)
        have := h1 r hr
        omega
      simp [this]
/-- What was taken can be given back at once. -/
theorem back_step {P : Int} {l : List M.R} {n : Int} (hok : M.Ok (-1) P l) (h : takeB l n = true) : giveB (takeL l n) P (takeP l n) n = true ∧ giveL (takeL l n) P (takeP l n) n = l := by
  have ht := take_step hok h
  have hgb : giveB (takeL l n) P (takeP l n) n = true := by
    rw [giveB_of ht.2.2.2.2.2.1 ht.2.2.2.2.1 ht.2.2.2.2.2.2, (M.hasR_not ht.1 _ _ ht.2.2.2.2.1).2 (fun x h1 h2 h3 => ((ht.2.2.1 x).1 h3).2 ⟨h1, h2⟩)]
    rfl
  have hg := give_step ht.1 hgb
  refine ⟨hgb, M.uniq _ _ _ _ _ _ hg.1 hok (fun x => ?_)⟩
  rw [hg.2.2.1 x, ht.2.2.1 x]
  constructor
  · rintro (h1 | h1)
    · exact h1.1
    · exact ht.2.2.2.1 x h1.1 h1.2
  · intro h1
    by_cases h2 : takeP l n ≤ x ∧ x < takeP l n + n
    · exact .inr h2
    · exact .inl ⟨h1, h2⟩
/-- Without holes pages are taken one behind the other. -/
theorem one_step {p q n : Int} (h1 : 1 ≤ n) (h2 : n < q) : takeP [⟨p, q⟩] n = p ∧ tkE [⟨p, q⟩] n = 0 ∧ tkL [⟨p, q⟩] n = [⟨p + n, q - n⟩] := by
  have hb : takeB [⟨p, q⟩] n = true := by
    rw [takeB_most h1]
    have : q ≤ M.most [⟨p, q⟩] := M.le_most (l := [⟨p, q⟩]) (r := ⟨p, q⟩) (by simp)
    simp
    omega
  obtain ⟨k, hk, _, _, _, eP, eL⟩ := taken hb
  have : k = 0 := by simp at hk; omega
  subst this
  refine ⟨by rw [eP]; rfl, by rw [tkE, if_neg (by omega), if_pos hb], ?_⟩
  rw [tkL, if_pos hb, eL]
  unfold M.left
  have hne : ¬ (q = n) := by omega
  simp [hne]

/-- An Alloc that a call made, beside what it was handed. -/
structure Std (w0 w : World) (g : Nat) (P : Int) (l : List M.R) (T : Int) (k : Nat) : Prop where
  has : Has w g P l T
  fit : Fit P l T k
  bel : Below w0.heap.size w0 w
  old : w0.heap.size ≤ g
  p1 : 1 ≤ P
  p2 : P ≤ 1048576
section
variable {w0 w w' : World} {g : Nat} {P : Int} {l l' : List M.R} {T T' : Int} {k k' : Nat}
theorem Std.below (h : Std w0 w g P l T k) (hb : Below w.heap.size w w') : Std w0 w' g P l T k := ⟨h.has.below hb, h.fit, below_call h.bel hb, h.old, h.p1, h.p2⟩
theorem Std.grown (h : Std w0 w g P l T k) (hh : Has w' g P l' T') (hg : w.grownBy w' (some g)) (hf : Fit P l' T' k') : Std w0 w' g P l' T' k' :=
  ⟨hh, hf, h.bel.grown hg h.bel.size (fun j hj => by cases hj; exact h.old), h.old, h.p1, h.p2⟩
theorem Std.drew (h : Std w0 w g P l T k) : Std w0 w.drew g P l T k := h.below (Below.refl _ _).drew
theorem Std.alloc (h : Std w0 w g P l T k) (o : Obj) : Std w0 (w.alloc o) g P l T k := h.below ((Below.refl _ _).alloc (Nat.le_refl _) _)
theorem Std.one (h : Std w0 w g P l T k) : Std w0 w g P l T (k + 1) := ⟨h.has, h.fit.one, h.bel, h.old, h.p1, h.p2⟩
/-- Runs that are beside the Alloc. -/
theorem Std.runs (h : Std w0 w g P l T k) {A' : Option Addr} (hr : Runs w A' l') (hb : w.grownBy w' (some g)) : Runs w' A' l' := h.has.runs hr hb
theorem s_new (h : Below w0.heap.size w0 w) (x : Int) (P : Int) (hP : P = min (max x 1) 1048576) :
    Calls Try.prog 21 #[.int .i64 x] w fun e w' => ∃ g, e = .returned (.pointer (some ⟨g, 0, none⟩)) ∧ Std w0 w' g P [⟨0, P⟩] 0 0 ∧ Below w.heap.size w w' ∧ w.heap.size ≤ g := by
  refine (al_new w x P hP).mono ?_
  rintro e w' ⟨g, rfl, hh, hb, hg⟩
  exact ⟨g, rfl, ⟨hh, Fit.new P (by omega), below_call h hb, Nat.le_trans h.size hg, by omega, by omega⟩, hb, hg⟩
theorem s_take (h : Std w0 w g P l T k) (hk : k ≤ 1000) (n : Int) :
    Calls Try.prog 50 #[.pointer (some ⟨g, 0, none⟩), .int .i64 n] w fun e w' => e = .returned (.tuple #[.int .i64 (takeP l n), .int .i64 (tkE l n)]) ∧ Std w0 w' g P (tkL l n) (tkT l n T) (k + 1) ∧ w.grownBy w' (some g) := by
  have h1 := h.p1
  have h2 := h.p2
  have h3 := h.fit.t1
  refine (al_take w g P l T h.has h.fit.ok (by omega) (by omega) h.fit.t0 (by omega) n).mono ?_
  rintro e w' ⟨rfl, hh, hg⟩
  exact ⟨rfl, h.grown hh hg (h.fit.take (by omega) h2 n), hg⟩
theorem s_give (h : Std w0 w g P l T k) (hk : k ≤ 1000) (p n : Int) (hp : -9223372036854775808 ≤ p) :
    Calls Try.prog 39 #[.pointer (some ⟨g, 0, none⟩), .int .i64 p, .int .i64 n] w fun e w' => e = .returned (.int .i64 (gvE l P p n)) ∧ Std w0 w' g P (gvL l P p n) (gvT l P p n T) (k + 1) ∧ w.grownBy w' (some g) := by
  have h1 := h.p1
  have h2 := h.p2
  have h3 := h.fit.t1
  refine (al_give w g P l T h.has h.fit.ok (by omega) (by omega) h.fit.t0 (by omega) p n hp).mono ?_
  rintro e w' ⟨rfl, hh, hg⟩
  exact ⟨rfl, h.grown hh hg (h.fit.give (by omega) h2 p n), hg⟩
theorem s_runs (h : Std w0 w g P l T k) : Calls Try.prog 31 #[.pointer (some ⟨g, 0, none⟩)] w (GotR w l) := al_runs w g P l T h.has h.fit.ok (by have := h.p1; omega) h.p2
end
end Go.Proofs.Ytmagdhcpbofkbaa
