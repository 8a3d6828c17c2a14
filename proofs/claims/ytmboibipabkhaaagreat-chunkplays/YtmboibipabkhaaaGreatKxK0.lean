/-
  Words for memory and numbers that all layers use: no function of the program, no type by its number.
-/
import Derived.Test.YtmboibipabkhaaaGreatRows
import Derived.WalkKit
import Derived.WalkSpells
import Derived.WalkLawsBesides
import Derived.ProofKit
import Derived.OpenShut
import Derived.BigQuiet
import Derived.Outline
import Derived.Lib.Hide
import Derived.Laws.IdiomStrings
import Derived.Deep.Draws
import Derived.Deep.OwnRows
import Derived.Deep.QuietTactic
import Derived.RegionTactic
import Derived.Deep.RegionWith
import Derived.Deep.RegionHeld3
namespace Go.Proofs.YtmboibipabkhaaaGreat
open Go.ChangeShapes Go.WideShapes Go.ChangeAt Go.RowKit
set_option linter.unusedVariables false
theorem ret1 {k : IntKind} {a b : Int} (h : a = b) : Ending.returned (.int k a) = .returned (.int k b) := by rw [h]
theorem retB {p q : Bool} (h : p = q) : Ending.returned (.bool p) = .returned (.bool q) := by rw [h]
theorem ret2 {k : IntKind} {a b : Int} {p q : Bool} (h : a = b) (g : p = q) : Ending.returned (.tuple #[.int k a, .bool p]) = .returned (.tuple #[.int k b, .bool q]) := by rw [h, g]
theorem wrapU (n : Int) : IntKind.u64.wrap n = n % 18446744073709551616 := IntKind.wrap_u64 n
theorem u64_nat {a : Int} (h : (Lit.int .u64 a).wf = true) : ∃ n : Nat, n < 18446744073709551616 ∧ a = n := by
 have := bounds_u64 h
 exact ⟨a.toNat, by omega, by omega⟩
theorem u8_nat {a : Int} (h : (Lit.int .u8 a).wf = true) : ∃ n : Nat, n < 256 ∧ a = n := by
 have := bounds_u8 h
 exact ⟨a.toNat, by omega, by omega⟩
theorem block_of_add (a : Addr) (n : Nat) : (a.add n).block = a.block := by unfold Addr.add; split <;> rfl
theorem lt_of_cell {w : World} {p : Addr} {v : Value} (h : w.cell? p = some v) : p.block < w.heap.size := by
 rcases Nat.lt_or_ge p.block w.heap.size with hl | hl
 ·exact hl
 ·exfalso
  unfold World.cell? at h
  rw [Array.getElem?_eq_none hl] at h
  cases h
def Lies (w : World) (A : Option Addr) (xs : List Value) : Prop :=
 0 < xs.length → ∃ ad, A = some ad ∧ ∀ j (h : j < xs.length), w.cell? (ad.add j) = some xs[j]
def u8s (l : List UInt8) : List Value := l.map fun b => .int .u8 (b.toNat : Int)
def u64s (l : List Nat) : List Value := l.map fun (n : Nat) => .int .u64 (n : Int)
theorem u8s_length (l : List UInt8) : (u8s l).length = l.length := by simp [u8s]
theorem u64s_length (l : List Nat) : (u64s l).length = l.length := by simp [u64s]
section
variable {w w' : World} {A : Option Addr} {xs : List Value}
theorem Lies.keep (h : Lies w A xs) (hb : ∀ p : Addr, p.block < w.heap.size → w'.cell? p = w.cell? p) : Lies w' A xs := fun hn => by
 obtain ⟨ad, e, hc⟩ := h hn
 exact ⟨ad, e, fun j hj => (hb _ (lt_of_cell (hc j hj))).trans (hc j hj)⟩
theorem Lies.below (h : Lies w A xs) (hb : Below w.heap.size w w') : Lies w' A xs := h.keep fun _ hp => hb.cell hp
theorem Lies.alloc (h : Lies w A xs) (o : Obj) : Lies (w.alloc o) A xs := h.keep fun p hp => World.cell?_alloc_lt w o p hp
theorem Lies.nil : Lies w A [] := fun h => absurd h (by simp)
end
def Own (w : World) (g : Nat) (l : List UInt8) : Prop :=
 (∀ j (h : j < l.length), w.cell? ⟨g, j, none⟩ = some (.int .u8 (l[j].toNat : Int))) ∧ ∀ j, j < l.length → w.frozen? ⟨g, j, none⟩ = false
section
variable {w w' : World} {g : Nat} {l : List UInt8}
theorem Own.lies (h : Own w g l) : Lies w (some ⟨g, 0, none⟩) (u8s l) := fun hn => ⟨_, rfl, fun j hj => by
 have hj' : j < l.length := by simpa [u8s] using hj
 have := h.1 j hj'
 simp only [u8s, List.getElem_map]
 rw [← this]
 congr 1
 unfold Addr.add
 split
 ·next e => subst e; rfl
 ·simp⟩
theorem Own.keep (h : Own w g l) (hb : w'.heap[g]? = w.heap[g]?) : Own w' g l :=
 ⟨fun j hj => (World.cell?_of_block (w := w) (a := ⟨g, j, none⟩) hb).trans (h.1 j hj), fun j hj => (World.frozen?_of_block (w := w) (a := ⟨g, j, none⟩) hb).trans (h.2 j hj)⟩
theorem Own.lt (h : Own w g l) (hl : 0 < l.length) : g < w.heap.size := lt_of_cell (h.1 0 hl)
theorem Own.below (h : Own w g l) {B : Nat} (hg : g < B) (hb : Below B w w') : Own w' g l := h.keep (hb.block g hg)
theorem Own.alloc (h : Own w g l) (hg : g < w.heap.size) (o : Obj) : Own (w.alloc o) g l := h.keep (Below.heap_alloc w o g hg)
theorem Own.set (h : Own w g l) (i : Nat) (hi : i < l.length) (b : UInt8) : Own (w.setCell ⟨g, i, none⟩ (.int .u8 (b.toNat : Int))) g (l.set i b) := by
 refine ⟨fun j hj => ?_, fun j hj => ?_⟩
 ·rw [List.length_set] at hj
  by_cases e : i = j
  ·subst e
   rw [World.cell?_setCell_same _ _ _ (h.1 i hi)]
   simp
  ·have hne : (⟨g, i, none⟩ : Addr) ≠ ⟨g, j, none⟩ := fun h => e (by injection h)
   rw [World.cell?_setCell_other w _ _ _ hne, h.1 j hj, List.getElem_set_ne e]
 ·rw [List.length_set] at hj
  rw [World.frozen?_setCell]
  exact h.2 j hj
end
theorem only_setCell {a w : World} {g : Nat} (h : a.grownBy w (some g)) {p : Addr} (hp : p.block = g) (u : Value) : a.grownBy (w.setCell p u) (some g) :=
 ⟨h.os, h.tape, h.output, by simpa [World.setCell] using h.size, fun i hi hne => (Below.heap_setCell w p u i (by
  rintro rfl
  exact hne (by rw [hp]))).trans (h.block i hi hne)⟩
theorem retS {a b : List UInt8} (h : a = b) : Ending.returned (.string ⟨a.toArray⟩) = .returned (.string ⟨b.toArray⟩) := by rw [h]
theorem below_drewL {w w' : World} (h : Below w.drew.heap.size w.drew w') : Below w.heap.size w w' := ⟨h.os, h.tape, h.output, h.size, h.block⟩
theorem below_call {a W w' : World} (h : Below a.heap.size a W) (hb : Below W.heap.size W w') : Below a.heap.size a w' := h.trans (hb.mono h.size)
theorem drew_call {W w' : World} (hb : Below W.drew.heap.size W.drew w') : Below W.heap.size W w' := ⟨hb.os, hb.tape, hb.output, hb.size, hb.block⟩
theorem below_drewN' {B : Nat} {a w : World} (h : Below B a w) (n : Nat) : Below B a (w.drewN n) := ⟨h.os, h.tape, h.output, h.size, h.block⟩
theorem le_alloc (w : World) (o : Obj) : w.heap.size ≤ (w.alloc o).heap.size := by simp
theorem u8s_take (l : List UInt8) (i : Nat) : u8s (l.take i) = (u8s l).take i := by simp [u8s, List.map_take]
theorem u8s_drop (l : List UInt8) (i : Nat) : u8s (l.drop i) = (u8s l).drop i := by simp [u8s, List.map_drop]
theorem add_add (a : Addr) (i j : Nat) : (a.add i).add j = a.add (i + j) := by
 unfold Addr.add
 by_cases hi : i = 0 <;> by_cases hj : j = 0 <;> simp [hi, hj, Nat.add_assoc]
theorem add_zero' (a : Addr) : a.add 0 = a := by unfold Addr.add; simp
theorem str_snoc (a : List UInt8) (b : UInt8) : ({ data := a.toArray } ++ { data := #[b] } : ByteArray) = { data := (a ++ [b]).toArray } := ByteArray.mk_append_mk a [b]
theorem i64_range {a : Int} (h : (Lit.int .i64 a).wf = true) : -9223372036854775808 ≤ a ∧ a ≤ 9223372036854775807 := by
 have := bounds_i64 h
 omega
end Go.Proofs.YtmboibipabkhaaaGreat
namespace Go.Proofs.YtmboibipabkhaaaGreat.M
def size (n : Nat) : Nat := if h : n = 0 then 0 else size (n / 2) + 1
termination_by n
decreasing_by omega
def ones (n : Nat) : Nat := if h : n = 0 then 0 else ones (n / 2) + n % 2
termination_by n
decreasing_by omega
def addB (a b : Nat) : Bool := decide (a + b < 18446744073709551616)
def addV (a b : Nat) : Nat := if a + b < 18446744073709551616 then a + b else 0
def inB (s n z : Nat) : Bool := addB s n && decide (addV s n ≤ z)
def pgs (n : Nat) : Nat := if n % 4096 = 0 then n / 4096 else n / 4096 + 1
end Go.Proofs.YtmboibipabkhaaaGreat.M
namespace Go.Proofs.YtmboibipabkhaaaGreat
set_option linter.unusedVariables false
theorem yI {α : Type _} (l : List α) (i : Nat) (a : α) : l.toArray.setIfInBounds i a = (l.set i a).toArray := List.setIfInBounds_toArray l i a
theorem yZ {α : Type _} (x y : α) (l : List α) : (x :: l).set 0 y = y :: l := rfl
theorem yS {α : Type _} (x y : α) (l : List α) (n : Nat) : (x :: l).set (n + 1) y = x :: l.set n y := rfl
section
variable {P : Program} {ops : Array Oper} {Q : Exit → Act → World → Prop} {md : Region.Mode} {S : World → Prop}
theorem tkA (i : Nat) (dst : Option Tmp) (op : Op) (ty : TypeId) {po : String} {af : Array Edge} {gu : Option (Nat × Bool)} {v : Value} {fuel : Nat} {listed : Array Bool} {a : Act} {w : World} (hi : ops[i]? = some ⟨dst, op, ty, po, af, gu⟩)
  (hb : (Region.noSelect ops && (Region.free md ops listed i && ((Region.ready md ops listed).contains i && Region.wanted ⟨dst, op, ty, po, af, gu⟩ (yielded ops a.tmps)))) = true)
  (hr : ∀ w, S w → (execOp a.eval ⟨dst, op, ty, "", #[], none⟩).run P w = .ok (.value v) w) (hS : S w)
  (h : wpAnyH P md ops (NoPanic Q) S fuel (listed.setIfInBounds i true) (a.put dst v) w) : wpAnyH P md ops (NoPanic Q) S (fuel + 1) listed a w := by
 simp only [Bool.and_eq_true] at hb
 exact wpAnyH_take hi hb.1 hb.2.1 hb.2.2.1 (fun _ _ _ h => h) (.inl ⟨hb.2.2.2, hr⟩) hS h
theorem tkN (i : Nat) (o : Oper) {v : Value} {fuel : Nat} {listed : Array Bool} {a : Act} {w : World} (hi : ops[i]? = some o)
  (hb : (Region.noSelect ops && (Region.free md ops listed i && ((Region.ready md ops listed).contains i && Region.wanted o (yielded ops a.tmps)))) = true)
  (hr : ∀ w, S w → (execOp a.eval o).run P w = .ok (.value v) w) (hS : S w)
  (h : wpAnyH P md ops (NoPanic Q) S fuel (listed.setIfInBounds i true) (a.put o.dst v) w) : wpAnyH P md ops (NoPanic Q) S (fuel + 1) listed a w := by
 simp only [Bool.and_eq_true] at hb
 exact wpAnyH_take hi hb.1 hb.2.1 hb.2.2.1 (fun _ _ _ h => h) (.inl ⟨hb.2.2.2, hr⟩) hS h
theorem tkO (i : Nat) (dst : Option Tmp) {op : Op} {ty : TypeId} {po : String} {af : Array Edge} {gu : Option (Nat × Bool)} {fuel : Nat} {listed : Array Bool} {a : Act} {w : World} (hi : ops[i]? = some ⟨dst, op, ty, po, af, gu⟩)
  (hb : (Region.noSelect ops && (Region.free md ops listed i && ((Region.ready md ops listed).contains i && !Region.wanted ⟨dst, op, ty, po, af, gu⟩ (yielded ops a.tmps)))) = true) (hS : S w)
  (h : wpAnyH P md ops (NoPanic Q) S fuel (listed.setIfInBounds i true) (a.put dst undef) w) : wpAnyH P md ops (NoPanic Q) S (fuel + 1) listed a w := by
 simp only [Bool.and_eq_true, Bool.not_eq_true'] at hb
 exact wpAnyH_take hi hb.1 hb.2.1 hb.2.2.1 (fun _ _ _ h => h) (.inr ⟨hb.2.2.2, rfl⟩) hS h
theorem rcA {i : Nat} (dst : Option Tmp) (op : Op) (ty : TypeId) {po : String} {af : Array Edge} {gu : Option (Nat × Bool)} {rs : List Nat} {fuel : Nat} {listed : Array Bool} {a : Act} {w : World} (hi : ops[i]? = some ⟨dst, op, ty, po, af, gu⟩) (hw : Region.wanted ⟨dst, op, ty, po, af, gu⟩ (yielded ops a.tmps) = true)
  (h : ∀ K : Act → World → Prop, Shut (∀ a w, S w → (S w → wpAnyH P md ops Q S fuel (listed.setIfInBounds i true) a w) → K a w) → Oper.wp P ⟨dst, op, ty, "", #[], none⟩ a w K Q)
  (hs : AllReadyH P md ops Q S fuel listed a w rs) : AllReadyH P md ops Q S fuel listed a w (i :: rs) :=
 .cons hi (fun K hK => by rw [if_pos hw]; exact h K hK) hs
theorem rdA {rs : List Nat} {fuel : Nat} {listed : Array Bool} {a : Act} {w : World} (hr : Region.ready md ops listed = rs) (h : AllReadyH P md ops Q S fuel listed a w rs) (hne : rs.isEmpty = false) : wpAnyH P md ops Q S (fuel + 1) listed a w :=
 wpAnyH_ready hr (fun e => by rw [e] at hne; cases hne) h
theorem tkC (i : Nat) (dst : Option Tmp) (op : Op) (ty : TypeId) {po : String} {af : Array Edge} {gu : Option (Nat × Bool)} {v : Value} {fuel : Nat} {listed : Array Bool} {a : Act} {w : World} (hi : ops[i]? = some ⟨dst, op, ty, po, af, gu⟩)
  (hb : (Region.noSelect ops && (Region.free md ops listed i && (Region.ready md ops listed).contains i)) = true) (hw : Region.wanted ⟨dst, op, ty, po, af, gu⟩ (yielded ops a.tmps) = true)
  (hr : ∀ w, S w → (execOp a.eval ⟨dst, op, ty, "", #[], none⟩).run P w = .ok (.value v) w) (hS : S w)
  (h : wpAnyH P md ops (NoPanic Q) S fuel (listed.setIfInBounds i true) (a.put dst v) w) : wpAnyH P md ops (NoPanic Q) S (fuel + 1) listed a w := by
 simp only [Bool.and_eq_true] at hb
 exact wpAnyH_take hi hb.1 hb.2.1 hb.2.2 (fun _ _ _ h => h) (.inl ⟨hw, hr⟩) hS h
theorem tkP (i : Nat) (dst : Option Tmp) {op : Op} {ty : TypeId} {po : String} {af : Array Edge} {gu : Option (Nat × Bool)} {fuel : Nat} {listed : Array Bool} {a : Act} {w : World} (hi : ops[i]? = some ⟨dst, op, ty, po, af, gu⟩)
  (hb : (Region.noSelect ops && (Region.free md ops listed i && (Region.ready md ops listed).contains i)) = true) (hw : Region.wanted ⟨dst, op, ty, po, af, gu⟩ (yielded ops a.tmps) = false) (hS : S w)
  (h : wpAnyH P md ops (NoPanic Q) S fuel (listed.setIfInBounds i true) (a.put dst undef) w) : wpAnyH P md ops (NoPanic Q) S (fuel + 1) listed a w := by
 simp only [Bool.and_eq_true] at hb
 exact wpAnyH_take hi hb.1 hb.2.1 hb.2.2 (fun _ _ _ h => h) (.inr ⟨hw, rfl⟩) hS h
end
end Go.Proofs.YtmboibipabkhaaaGreat
