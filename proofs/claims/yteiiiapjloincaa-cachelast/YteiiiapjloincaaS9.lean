/-
  A Cache that a call made, beside what it was handed; the document's example, by the program.
-/
import Derived.Test.YteiiiapjloincaaA9
namespace Go.Proofs.Yteiiiapjloincaa
open Go.ChangeShapes Go.WideShapes Go.ChangeAt Go.RowKit Go.Deep
set_option linter.unusedVariables false
set_option maxRecDepth 20000

/-- A Cache that a call made, beside what it was handed. -/
structure Kp (w0 w : World) (g : Nat) (f : M.Ky) : Prop where
  has : IsC w g f
  bel : Below w0.heap.size w0 w
  old : w0.heap.size ≤ g
section
variable {w0 w w' : World} {g : Nat} {f f' : M.Ky}
theorem Kp.below (h : Kp w0 w g f) (hb : Below w.heap.size w w') : Kp w0 w' g f := ⟨h.has.below hb, below_call h.bel hb, h.old⟩
theorem Kp.grown (h : Kp w0 w g f) (hh : IsC w' g f') (hg : w.grownBy w' (some g)) : Kp w0 w' g f' := ⟨hh, h.bel.grown hg h.bel.size (fun j hj => by cases hj; exact h.old), h.old⟩
theorem Kp.other (h : Kp w0 w g f) {r : Nat} (hr : g ≠ r) (ho : w0.heap.size ≤ r) (hg : w.grownBy w' (some r)) : Kp w0 w' g f := ⟨h.has.grown hr hg, h.bel.grown hg h.bel.size (fun j hj => by cases hj; exact ho), h.old⟩
theorem Kp.drew (h : Kp w0 w g f) : Kp w0 w.drew g f := h.below (Below.refl _ _).drew
theorem Kp.drewN (h : Kp w0 w g f) (n : Nat) : Kp w0 (w.drewN n) g f := h.below (below_drewN' (Below.refl _ _) n)
theorem Kp.alloc (h : Kp w0 w g f) (o : Obj) : Kp w0 (w.alloc o) g f := h.below ((Below.refl _ _).alloc (Nat.le_refl _) _)
theorem k_new (h : Below w0.heap.size w0 w) : Calls Try.prog 9 #[] w fun e w' => ∃ g, e = .returned (.pointer (some ⟨g, 0, none⟩)) ∧ Kp w0 w' g M.empty ∧ Below w.heap.size w w' ∧ w.heap.size ≤ g := by
  refine (canew_any w).mono ?_
  rintro e w' ⟨g, rfl, hh, hb, hg⟩
  exact ⟨g, rfl, ⟨hh, below_call h hb, Nat.le_trans h.size hg⟩, hb, hg⟩
theorem k_push (h : Kp w0 w g f) (c p : Int) : Calls Try.prog 11 #[.pointer (some ⟨g, 0, none⟩), .int .i64 c, .int .i64 p] w fun e w' => e = .returned (.bool (M.pushB f c p)) ∧ Kp w0 w' g (M.pushF f c p) ∧ w.grownBy w' (some g) := by
  refine (capush_any w g f h.has c p).mono ?_
  rintro e w' ⟨rfl, hh, hg⟩
  exact ⟨rfl, h.grown hh hg, hg⟩
theorem k_pop (h : Kp w0 w g f) (c : Int) : Calls Try.prog 13 #[.pointer (some ⟨g, 0, none⟩), .int .i64 c] w fun e w' => e = .returned (.tuple #[.int .i64 (M.popV f c), .bool (M.popB f c)]) ∧ Kp w0 w' g (M.popF f c) ∧ w.grownBy w' (some g) := by
  refine (capop_any w g f h.has c).mono ?_
  rintro e w' ⟨rfl, hh, hg⟩
  exact ⟨rfl, h.grown hh hg, hg⟩
theorem k_clear (h : Kp w0 w g f) : Calls Try.prog 14 #[.pointer (some ⟨g, 0, none⟩)] w fun e w' => e = .returned (.tuple #[]) ∧ Kp w0 w' g M.empty ∧ w.grownBy w' (some g) := by
  refine (caclear_any w g f h.has).mono ?_
  rintro e w' ⟨rfl, hh, hg⟩
  exact ⟨rfl, h.grown hh hg, hg⟩
theorem k_len (h : Kp w0 w g f) (c : Int) : Calls Try.prog 15 #[.pointer (some ⟨g, 0, none⟩), .int .i64 c] w fun e w' => e = .returned (.int .i64 ((f c).length : Int)) ∧ w = w' := calen_any w g f h.has c
theorem k_pages (h : Kp w0 w g f) : Calls Try.prog 17 #[.pointer (some ⟨g, 0, none⟩)] w fun e w' => e = .returned (.int .i64 (M.sum f)) ∧ w = w' := capages_any w g f h.has
theorem k_all (h : Kp w0 w g f) : Calls Try.prog 20 #[.pointer (some ⟨g, 0, none⟩)] w (AllGot w (M.all f)) := caall_any w g f h.has
end

set_option maxHeartbeats 4000000 in
theorem awake_any (w : World) : Calls Try.prog 8 #[] w fun e w' => e = .returned (.bool true) ∧ Below w.heap.size w w' := by
  have B0 := Lib.hid (Below.refl w.heap.size w)
  go_enter Try.func8, Try.ntmps8
  go_wp2_with fail
  refine (k_new B0.out).mono ?_
  rintro e w1 ⟨g, rfl, h1, _, _⟩
  have H1 := Lib.hid h1
  clear h1
  go_wp2_with fail
  refine (k_push H1.out 1 4).mono ?_
  rintro e w2 ⟨rfl, h2, _⟩
  rw [show M.pushB M.empty 1 4 = true by decide]
  have H2 := Lib.hid h2
  clear h2
  go_wp2_with fail
  refine (k_push H2.out 1 8).mono ?_
  rintro e w3 ⟨rfl, h3, _⟩
  rw [show M.pushB (M.pushF M.empty 1 4) 1 8 = true by decide]
  have H3 := Lib.hid h3
  clear h3
  go_wp2_with fail
  refine (k_pages H3.out).mono ?_
  rintro e w4 ⟨rfl, rfl⟩
  rw [show M.sum (M.pushF (M.pushF M.empty 1 4) 1 8) = 4 by decide]
  go_wp2_with fail
  refine (k_pop H3.out 1).mono ?_
  rintro e w4 ⟨rfl, h4, _⟩
  rw [show M.popV (M.pushF (M.pushF M.empty 1 4) 1 8) 1 = 8 by decide, show M.popB (M.pushF (M.pushF M.empty 1 4) 1 8) 1 = true by decide]
  have H4 := Lib.hid h4
  clear h4
  go_wp2_with fail
  refine (k_pop H4.out 1).mono ?_
  rintro e w5 ⟨rfl, h5, _⟩
  rw [show M.popV (M.popF (M.pushF (M.pushF M.empty 1 4) 1 8) 1) 1 = 4 by decide, show M.popB (M.popF (M.pushF (M.pushF M.empty 1 4) 1 8) 1) 1 = true by decide]
  have H5 := Lib.hid h5
  clear h5
  go_wp2_with fail
  refine (k_pop H5.out 1).mono ?_
  rintro e w6 ⟨rfl, h6, _⟩
  rw [show M.popV (M.popF (M.popF (M.pushF (M.pushF M.empty 1 4) 1 8) 1) 1) 1 = 0 by decide, show M.popB (M.popF (M.popF (M.pushF (M.pushF M.empty 1 4) 1 8) 1) 1) 1 = false by decide]
  have H6 := Lib.hid h6
  clear h6
  go_wp2_with fail
  go_ret
  exact ⟨rfl, H6.out.bel⟩
end Go.Proofs.Yteiiiapjloincaa
