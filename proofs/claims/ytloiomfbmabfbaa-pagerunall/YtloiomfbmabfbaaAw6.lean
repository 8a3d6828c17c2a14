/-
  The document's example, by the program.
-/
import Derived.Test.YtloiomfbmabfbaaSt6
namespace Go.Proofs.Ytloiomfbmabfbaa
open Go.ChangeShapes Go.WideShapes Go.ChangeAt Go.RowKit Go.Deep
set_option linter.unusedVariables false
set_option maxRecDepth 20000

set_option maxHeartbeats 4000000 in
theorem awake_any (w : World) : Calls Try.prog 8 #[] w fun e w' => e = .returned (.bool true) ∧ Below w.heap.size w w' := by
  have B0 := Lib.hid (Below.refl w.heap.size w)
  go_enter Try.func8, Try.ntmps8
  go_wp2_with fail
  refine (s_new B0.out 8 8 (by decide)).mono ?_
  rintro e w1 ⟨g, rfl, h1, _, _⟩
  have H1 := Lib.hid h1
  clear h1
  go_wp2_with fail
  refine (s_take H1.out (by omega) 3).mono ?_
  rintro e w2 ⟨rfl, h2, _⟩
  rw [show takeP [⟨0, 8⟩] 3 = 0 by decide, show tkE [⟨0, 8⟩] 3 = 0 by decide]
  rw [show tkL [⟨0, 8⟩] 3 = [⟨3, 5⟩] by decide, show tkT [⟨0, 8⟩] 3 0 = 2 by decide] at h2
  have H2 := Lib.hid h2
  clear h2
  go_wp2_with fail
  refine (s_take H2.out (by omega) 2).mono ?_
  rintro e w3 ⟨rfl, h3, _⟩
  rw [show takeP [⟨3, 5⟩] 2 = 3 by decide, show tkE [⟨3, 5⟩] 2 = 0 by decide]
  rw [show tkL [⟨3, 5⟩] 2 = [⟨5, 3⟩] by decide, show tkT [⟨3, 5⟩] 2 2 = 4 by decide] at h3
  have H3 := Lib.hid h3
  clear h3
  go_wp2_with fail
  refine (s_give H3.out (by omega) 0 3 (by omega)).mono ?_
  rintro e w4 ⟨rfl, h4, _⟩
  rw [show gvE [⟨5, 3⟩] 8 0 3 = 0 by decide]
  rw [show gvL [⟨5, 3⟩] 8 0 3 = [⟨0, 3⟩, ⟨5, 3⟩] by decide, show gvT [⟨5, 3⟩] 8 0 3 4 = 6 by decide] at h4
  have H4 := Lib.hid h4
  clear h4
  go_wp2_with fail
  refine (s_take H4.out (by omega) 1).mono ?_
  rintro e w5 ⟨rfl, h5, _⟩
  rw [show takeP [⟨0, 3⟩, ⟨5, 3⟩] 1 = 0 by decide, show tkE [⟨0, 3⟩, ⟨5, 3⟩] 1 = 0 by decide]
  rw [show tkL [⟨0, 3⟩, ⟨5, 3⟩] 1 = [⟨1, 2⟩, ⟨5, 3⟩] by decide, show tkT [⟨0, 3⟩, ⟨5, 3⟩] 1 6 = 9 by decide] at h5
  have H5 := Lib.hid h5
  clear h5
  go_wp2_with fail
  refine (s_free H5.out).mono ?_
  rintro e w6 ⟨rfl, b6⟩
  rw [show M.total [⟨1, 2⟩, ⟨5, 3⟩] = 5 by decide]
  have H6 := Lib.hid (H5.out.below b6)
  clear b6
  go_wp2_with fail
  refine (s_largest H6.out).mono ?_
  rintro e w7 ⟨rfl, b7⟩
  rw [show M.most [⟨1, 2⟩, ⟨5, 3⟩] = 3 by decide]
  have H7 := Lib.hid (H6.out.below b7)
  clear b7
  go_wp2_with fail
  refine (s_ticks H7.out).mono ?_
  rintro e w8 ⟨rfl, b8⟩
  have H8 := Lib.hid (H7.out.below b8)
  clear b8
  go_wp2_with fail
  go_ret
  exact ⟨rfl, H8.out.bel⟩
end Go.Proofs.Ytloiomfbmabfbaa
