/-
  Two spaces, one cloned from the other.
-/
import Derived.Test.YtdchnncoddjngaaCl2
namespace Go.Proofs.Ytdchnncoddjngaa
open Go.ChangeShapes Go.WideShapes Go.ChangeAt Go.RowKit
set_option linter.unusedVariables false

section
variable {w0 w w' : World} {s P T : Nat} {f : Nat → UInt8} {O O' : Nat → Prop}
theorem At.other (h : At w0 w s P T f O) (k : Kept w w' O') (hd : ∀ b, O b → ¬ O' b) (hb : Below w0.heap.size w0 w') : At w0 w' s P T f O := ⟨h.sp.kept k hd, hb, h.old⟩
theorem At.wid_apart (h : At w0 w s P T f O) (hd : ∀ b, O b → ¬ O' b) : ∀ b, O b → ¬ Wid O' w w' b := fun b hb e => e.elim (hd b hb) (fun e => by have := h.sp.lt hb; omega)
theorem at_clone (h : At w0 w s P T f O) :
    Calls Try.prog 27 #[.pointer (some ⟨s, 0, none⟩)] w fun e w' => ∃ c Oc, e = .returned (.pointer (some ⟨c, 0, none⟩)) ∧ At w0 w' c P 0 f Oc ∧ At w0 w' s P T f O ∧ (∀ b, Oc b → w.heap.size ≤ b) ∧ Below w.heap.size w w' := by
  have ho := h
  obtain ⟨⟨m, G, i, rfl, h3, h4⟩, hb, hO⟩ := h
  refine (clone_ok i).mono ?_
  rintro e w' ⟨c, rfl, mc, Gc, i', hbytes, hmine, hb'⟩
  have hbb := below_call hb hb'
  exact ⟨c, fun b => w.heap.size ≤ b ∧ b < w'.heap.size, rfl, ⟨⟨mc, Gc, i', hbytes, fun b hM => ⟨hmine b hM, i'.mine_lt hM⟩, fun b hb => hb.2⟩, hbb, fun b hb0 => Nat.le_trans hb.size hb0.1⟩, ho.same hb', fun b hb => hb.1, hb'⟩
theorem clone_nil (w : World) : Calls Try.prog 27 #[.pointer none] w fun e w' => e = .returned (.pointer none) ∧ w = w' := by
  go_enter Try.func27, Try.ntmps27
  go_wp2
  go_ret
  exact ⟨rfl, rfl⟩
theorem ticks_at (h : At w0 w s P T f O) : Calls Try.prog 22 #[.pointer (some ⟨s, 0, none⟩)] w fun e w' => e = .returned (.int .i64 (T : Int)) ∧ w = w' := sticks_any h.sp
end
end Go.Proofs.Ytdchnncoddjngaa
