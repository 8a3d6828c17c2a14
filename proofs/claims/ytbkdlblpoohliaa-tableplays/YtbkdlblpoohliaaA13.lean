/-
  The document's example of layer 13.
-/
import Derived.Test.YtbkdlblpoohliaaStdI
import Derived.Below
import Derived.ShutString
namespace Go.Proofs.Ytbkdlblpoohliaa
open Go.ChangeShapes Go.WideShapes Go.ChangeAt Go.RowKit Go.Deep T13 TI
set_option linter.unusedVariables false
set_option maxRecDepth 20000

theorem laidOut : laidOutB Try.prog = true := by kernel_rfl

set_option maxHeartbeats 4000000 in
theorem awake_any (w : World) : Calls Try.prog 8 #[] w fun e w' => e = .returned (.bool true) ∧ Below w.heap.size w w' := by
  have B0 := Lib.hid (Below.refl w.heap.size w)
  have k2 := Lib.hid (show M.kOk 2 by decide)
  go_enter Try.func8, Try.ntmps8
  go_wp2_with fail
  refine (s_new B0.out 2).mono ?_
  rintro e w1 ⟨t, rfl, h1, _, _⟩
  have H1 := Lib.hid h1
  clear h1
  go_wp2_with fail
  refine (s_add H1.out (by omega) 7 k2.out).mono ?_
  rintro e w2 ⟨rfl, h2, _⟩
  rw [show M.hpV 2 ((M.Tt.new : M.Tt Th).at' : Int) ((M.Tt.new : M.Tt Th).gn : Int) = ((9223372036854775808 : Nat) : Int) by decide]
  rw [show (M.Tt.new : M.Tt Th).put 7 = ⟨[⟨true, 0, 7⟩], []⟩ from rfl] at h2
  have H2 := Lib.hid h2
  clear h2
  go_wp2_with fail
  refine (s_get H2.out 9223372036854775808 (by omega)).mono ?_
  rintro e w3 ⟨rfl, b3⟩
  rw [show (M.Tt.mk [⟨true, 0, (7 : Th)⟩] [] : M.Tt Th).liv 2 9223372036854775808 = some 0 by decide, show (M.Tt.mk [⟨true, 0, (7 : Th)⟩] [] : M.Tt Th).get 2 9223372036854775808 = some 7 by decide]
  have H3 := Lib.hid (H2.out.below b3)
  clear b3
  go_wp2_with fail
  refine (s_drop_some H3.out (by omega) 9223372036854775808 0 (by omega) (by decide)).mono ?_
  rintro e w4 ⟨rfl, h4, _⟩
  rw [show (M.Tt.mk [⟨true, 0, (7 : Th)⟩] [] : M.Tt Th).drop z0 0 = ⟨[⟨false, 1, 0⟩], [0]⟩ from rfl] at h4
  have H4 := Lib.hid h4
  clear h4
  go_wp2_with fail
  refine (s_add H4.out (by omega) 8 k2.out).mono ?_
  rintro e w5 ⟨rfl, h5, _⟩
  rw [show M.hpV 2 ((M.Tt.mk [⟨false, 1, (0 : Th)⟩] [0] : M.Tt Th).at' : Int) ((M.Tt.mk [⟨false, 1, (0 : Th)⟩] [0] : M.Tt Th).gn : Int) = ((9223372041149743104 : Nat) : Int) by decide]
  rw [show (M.Tt.mk [⟨false, 1, (0 : Th)⟩] [0] : M.Tt Th).put 8 = ⟨[⟨true, 1, 8⟩], []⟩ from rfl] at h5
  have H5 := Lib.hid h5
  clear h5
  go_wp2_with fail
  refine (s_get H5.out 9223372036854775808 (by omega)).mono ?_
  rintro e w6 ⟨rfl, b6⟩
  rw [show (M.Tt.mk [⟨true, 1, (8 : Th)⟩] [] : M.Tt Th).liv 2 9223372036854775808 = none by decide, show (M.Tt.mk [⟨true, 1, (8 : Th)⟩] [] : M.Tt Th).get 2 9223372036854775808 = none by decide]
  have H6 := Lib.hid (H5.out.below b6)
  clear b6
  go_wp2_with fail
  refine (hpack_at 2 0 0 9223372036854775808 rfl rfl rfl (by decide) (by decide) (by decide) _).mono ?_
  rintro _ _ ⟨rfl, rfl⟩
  go_wp2_with fail
  refine (hpack_at 2 0 1 9223372041149743104 rfl rfl rfl (by decide) (by decide) (by decide) _).mono ?_
  rintro _ _ ⟨rfl, rfl⟩
  go_wp2_with fail
  refine (s_len H6.out (by omega) 1 (by decide)).mono ?_
  rintro e w7 ⟨rfl, b7⟩
  have BB := Lib.hid (below_call H6.out.bel b7)
  clear b7
  go_wp2_with fail
  go_ret
  exact ⟨rfl, BB.out⟩
end Go.Proofs.Ytbkdlblpoohliaa
