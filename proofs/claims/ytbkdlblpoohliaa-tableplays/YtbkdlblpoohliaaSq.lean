/-
  Short forms of the moves of a drawn region's walk: an operation is named by what it does alone.
-/
import Derived.Test.YtbkdlblpoohliaaBase
import Derived.Deep.RegionHeld3
namespace Go.Proofs.Ytbkdlblpoohliaa
set_option linter.unusedVariables false
theorem yI {α : Type _} (l : List α) (i : Nat) (a : α) : l.toArray.setIfInBounds i a = (l.set i a).toArray := List.setIfInBounds_toArray l i a
theorem yZ {α : Type _} (x y : α) (l : List α) : (x :: l).set 0 y = y :: l := rfl
theorem yS {α : Type _} (x y : α) (l : List α) (n : Nat) : (x :: l).set (n + 1) y = x :: l.set n y := rfl
section
variable {P : Program} {ops : Array Oper} {Q : Exit → Act → World → Prop} {md : Region.Mode} {S : World → Prop}
theorem tkA (i : Nat) (dst : Option Tmp) (op : Op) (ty : TypeId) {po : String} {af : Array Edge} {gu : Option (Nat × Bool)} {v : Value} {fuel : Nat} {listed : Array Bool} {a : Act} {w : World} (hi : ops[i]? = some ⟨dst, op, ty, po, af, gu⟩)
    (hb : (Region.noSelect ops && (Region.free md ops listed i && ((Region.ready md ops listed).contains i && Region.wanted ⟨dst, op, ty, po, af, gu⟩ (yielded ops a.tmps)))) = true)
    (hr : ∀ w, S w → (execOp a.eval ⟨dst, op, ty, "", #[], none⟩).run P w = .ok (.value v) w) (hS : S w)
    (h : wpAnyH P md ops (NoPanic Q) S fuel (listed.setIfInBounds i true) (a.put dst v) w) : wpAnyH P md ops (NoPanic Q) S (fuel + 1) listed a w := by
  simp only [Bool.and_eq_true] at hb
  exact wpAnyH_take hi hb.1 hb.2.1 hb.2.2.1 (fun _ _ _ h => h) (.inl ⟨hb.2.2.2, hr⟩) hS h
/-- .. of an operation that has a name. -/
theorem tkN (i : Nat) (o : Oper) {v : Value} {fuel : Nat} {listed : Array Bool} {a : Act} {w : World} (hi : ops[i]? = some o)
    (hb : (Region.noSelect ops && (Region.free md ops listed i && ((Region.ready md ops listed).contains i && Region.wanted o (yielded ops a.tmps)))) = true)
    (hr : ∀ w, S w → (execOp a.eval o).run P w = .ok (.value v) w) (hS : S w)
    (h : wpAnyH P md ops (NoPanic Q) S fuel (listed.setIfInBounds i true) (a.put o.dst v) w) : wpAnyH P md ops (NoPanic Q) S (fuel + 1) listed a w := by
  simp only [Bool.and_eq_true] at hb
  exact wpAnyH_take hi hb.1 hb.2.1 hb.2.2.1 (fun _ _ _ h => h) (.inl ⟨hb.2.2.2, hr⟩) hS h
theorem tkO (i : Nat) (dst : Option Tmp) {op : Op} {ty : TypeId} {po : String} {af : Array Edge} {gu : Option (Nat × Bool)} {fuel : Nat} {listed : Array Bool} {a : Act} {w : World} (hi : ops[i]? = some ⟨dst, op, ty, po, af, gu⟩)
    (hb : (Region.noSelect ops && (Region.free md ops listed i && ((Region.ready md ops listed).contains i && !Region.wanted ⟨dst, op, ty, po, af, gu⟩ (yielded ops a.tmps)))) = true) (hS : S w)
    (h : wpAnyH P md ops (NoPanic Q) S fuel (listed.setIfInBounds i true) (a.put dst undef) w) : wpAnyH P md ops (NoPanic Q) S (fuel + 1) listed a w := by
  simp only [Bool.and_eq_true, Bool.not_eq_true'] at hb
  exact wpAnyH_take hi hb.1 hb.2.1 hb.2.2.1 (fun _ _ _ h => h) (.inr ⟨hb.2.2.2, rfl⟩) hS h
theorem rcA {i : Nat} (dst : Option Tmp) (op : Op) (ty : TypeId) {po : String} {af : Array Edge} {gu : Option (Nat × Bool)} {rs : List Nat} {fuel : Nat} {listed : Array Bool} {a : Act} {w : World} (hi : ops[i]? = some ⟨dst, op, ty, po, af, gu⟩) (hw : Region.wanted ⟨dst, op, ty, po, af, gu⟩ (yielded ops a.tmps) = true)
    (h : ∀ K : Act → World → Prop, Shut (∀ a w, S w → (S w → wpAnyH P md ops Q S fuel (listed.setIfInBounds i true) a w) → K a w) → Oper.wp P ⟨dst, op, ty, "", #[], none⟩ a w K Q)
    (hs : AllReadyH P md ops Q S fuel listed a w rs) : AllReadyH P md ops Q S fuel listed a w (i :: rs) :=
  .cons hi (fun K hK => by rw [if_pos hw]; exact h K hK) hs
theorem rdA {rs : List Nat} {fuel : Nat} {listed : Array Bool} {a : Act} {w : World} (hr : Region.ready md ops listed = rs) (h : AllReadyH P md ops Q S fuel listed a w rs) (hne : rs.isEmpty = false) : wpAnyH P md ops Q S (fuel + 1) listed a w :=
  wpAnyH_ready hr (fun e => by rw [e] at hne; cases hne) h
/-- .. whose side conditions are theorems of their own (the kernel forgets what it saw of each). -/
theorem tkC (i : Nat) (dst : Option Tmp) (op : Op) (ty : TypeId) {po : String} {af : Array Edge} {gu : Option (Nat × Bool)} {v : Value} {fuel : Nat} {listed : Array Bool} {a : Act} {w : World} (hi : ops[i]? = some ⟨dst, op, ty, po, af, gu⟩)
    (hb : (Region.noSelect ops && (Region.free md ops listed i && (Region.ready md ops listed).contains i)) = true) (hw : Region.wanted ⟨dst, op, ty, po, af, gu⟩ (yielded ops a.tmps) = true)
    (hr : ∀ w, S w → (execOp a.eval ⟨dst, op, ty, "", #[], none⟩).run P w = .ok (.value v) w) (hS : S w)
    (h : wpAnyH P md ops (NoPanic Q) S fuel (listed.setIfInBounds i true) (a.put dst v) w) : wpAnyH P md ops (NoPanic Q) S (fuel + 1) listed a w := by
  simp only [Bool.and_eq_true] at hb
  exact wpAnyH_take hi hb.1 hb.2.1 hb.2.2 (fun _ _ _ h => h) (.inl ⟨hw, hr⟩) hS h
theorem tkP (i : Nat) (dst : Option Tmp) {op : Op} {ty : TypeId} {po : String} {af : Array Edge} {gu : Option (Nat × Bool)} {fuel : Nat} {listed : Array Bool} {a : Act} {w : World} (hi : ops[i]? = some ⟨dst, op, ty, po, af, gu⟩)
    (hb : (Region.noSelect ops && (Region.free md ops listed i && (Region.ready md ops listed).contains i)) = true) (hw : Region.wanted ⟨dst, op, ty, po, af, gu⟩ (yielded ops a.tmps) = false) (hS : S w)
    (h : wpAnyH P md ops (NoPanic Q) S fuel (listed.setIfInBounds i true) (a.put dst undef) w) : wpAnyH P md ops (NoPanic Q) S (fuel + 1) listed a w := by
  simp only [Bool.and_eq_true] at hb
  exact wpAnyH_take hi hb.1 hb.2.1 hb.2.2 (fun _ _ _ h => h) (.inr ⟨hw, rfl⟩) hS h
end
end Go.Proofs.Ytbkdlblpoohliaa
