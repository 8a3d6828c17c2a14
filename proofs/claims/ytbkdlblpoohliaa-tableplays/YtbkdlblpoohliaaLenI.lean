/-
  A table of ints: Len.
-/
import Derived.Test.YtbkdlblpoohliaaHasI
import Derived.StillTailTactics
namespace Go.Proofs.Ytbkdlblpoohliaa.TI
open Go.ChangeShapes Go.WideShapes Go.ChangeAt Go.RowKit Go.Deep T13
set_option linter.unusedVariables false
set_option maxRecDepth 20000

section
variable {w : World} {B t : Nat} {K : Int} {S : M.Tt Th} {Q : Nat → Prop}
theorem len_any (h : Has w B t K S Q) (hle : S.f.length ≤ S.s.length) (hl : S.s.length ≤ 1000000) :
    Calls Try.prog 18 #[.pointer (some ⟨t, 0, none⟩)] w fun e w' => e = .returned (.int .i64 ((S.s.length : Int) - (S.f.length : Int))) ∧ Below w.heap.size w w' := by
  obtain ⟨A, F, n, c, m, d, ht, hA, hF⟩ := h.ex
  have hn := ht.n_eq
  have hm := ht.m_eq
  rw [← hn, ← hm]
  rw [← hn, ← hm] at hle
  rw [← hn] at hl
  have c1 : w.drew.cell? ⟨t, 1, none⟩ = some (.slice A n c) := ht.c1
  have c2 : w.drew.cell? ⟨t, 2, none⟩ = some (.slice F m d) := ht.c2
  have c1' := ht.c1
  have c2' := ht.c2
  have HB := Lib.hid (fun N => below_drewN' (Below.refl w.heap.size w) N)
  have s1 : wrap64 ((n : Int) - (m : Int)) = (n : Int) - (m : Int) := IntWalk.wrap64_in _ ⟨by omega, by omega⟩
  clear ht h hA hF hn hm
  go_enter Try.func18, Try.ntmps18
  go_wp2_with fail
  go_quiet (fail)
  go_wp2_with fail
  go_ret
  exact ⟨ret1 (by omega), HB.out _⟩
end
end Go.Proofs.Ytbkdlblpoohliaa.TI
