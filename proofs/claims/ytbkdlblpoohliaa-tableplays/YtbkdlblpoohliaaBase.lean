/-
  Words for memory and numbers that all layers use: no function of the program, no type by its number.
-/
import Derived.Test.YtbkdlblpoohliaaRows
import Derived.WalkKit
import Derived.WalkSpells
import Derived.WalkLawsBesides
import Derived.ProofKit
import Derived.OpenShut
import Derived.BigQuiet
import Derived.Outline
import Derived.Lib.Hide
import Derived.Laws.IdiomStrings
import Derived.Deep.Draws
import Derived.Deep.OwnRows
import Derived.Deep.QuietTactic
import Derived.RegionTactic
import Derived.Deep.RegionWith
namespace Go.Proofs.Ytbkdlblpoohliaa
open Go.ChangeShapes Go.WideShapes Go.ChangeAt Go.RowKit
set_option linter.unusedVariables false

theorem ret1 {k : IntKind} {a b : Int} (h : a = b) : Ending.returned (.int k a) = .returned (.int k b) := by rw [h]
theorem retB {p q : Bool} (h : p = q) : Ending.returned (.bool p) = .returned (.bool q) := by rw [h]
theorem ret2 {k : IntKind} {a b : Int} {p q : Bool} (h : a = b) (g : p = q) : Ending.returned (.tuple #[.int k a, .bool p]) = .returned (.tuple #[.int k b, .bool q]) := by rw [h, g]
theorem wrapU (n : Int) : IntKind.u64.wrap n = n % 18446744073709551616 := IntKind.wrap_u64 n
theorem u64_nat {a : Int} (h : (Lit.int .u64 a).wf = true) : ∃ n : Nat, n < 18446744073709551616 ∧ a = n := by
  have := bounds_u64 h
  exact ⟨a.toNat, by omega, by omega⟩
theorem u8_nat {a : Int} (h : (Lit.int .u8 a).wf = true) : ∃ n : Nat, n < 256 ∧ a = n := by
  have := bounds_u8 h
  exact ⟨a.toNat, by omega, by omega⟩

theorem block_of_add (a : Addr) (n : Nat) : (a.add n).block = a.block := by unfold Addr.add; split <;> rfl
theorem lt_of_cell {w : World} {p : Addr} {v : Value} (h : w.cell? p = some v) : p.block < w.heap.size := by
  rcases Nat.lt_or_ge p.block w.heap.size with hl | hl
  · exact hl
  · exfalso
    unfold World.cell? at h
    rw [Array.getElem?_eq_none hl] at h
    cases h

/-- A slice's address at which some cells lie, one behind the other. -/
def Lies (w : World) (A : Option Addr) (xs : List Value) : Prop :=
  0 < xs.length → ∃ ad, A = some ad ∧ ∀ j (h : j < xs.length), w.cell? (ad.add j) = some xs[j]
def u8s (l : List UInt8) : List Value := l.map fun b => .int .u8 (b.toNat : Int)
def u64s (l : List Nat) : List Value := l.map fun (n : Nat) => .int .u64 (n : Int)
theorem u8s_length (l : List UInt8) : (u8s l).length = l.length := by simp [u8s]
theorem u64s_length (l : List Nat) : (u64s l).length = l.length := by simp [u64s]

section
variable {w w' : World} {A : Option Addr} {xs : List Value}
theorem Lies.keep (h : Lies w A xs) (hb : ∀ p : Addr, p.block < w.heap.size → w'.cell? p = w.cell? p) : Lies w' A xs := fun hn => by
  obtain ⟨ad, e, hc⟩ := h hn
  exact ⟨ad, e, fun j hj => (hb _ (lt_of_cell (hc j hj))).trans (hc j hj)⟩
theorem Lies.below (h : Lies w A xs) (hb : Below w.heap.size w w') : Lies w' A xs := h.keep fun _ hp => hb.cell hp
theorem Lies.drew (h : Lies w A xs) : Lies w.drew A xs := h
theorem Lies.drewN (h : Lies w A xs) (n : Nat) : Lies (w.drewN n) A xs := h
theorem Lies.alloc (h : Lies w A xs) (o : Obj) : Lies (w.alloc o) A xs := h.keep fun p hp => World.cell?_alloc_lt w o p hp
theorem Lies.nil : Lies w A [] := fun h => absurd h (by simp)
end

/-- A row of bytes that may be written, from the head of a block on. -/
def Own (w : World) (g : Nat) (l : List UInt8) : Prop :=
  (∀ j (h : j < l.length), w.cell? ⟨g, j, none⟩ = some (.int .u8 (l[j].toNat : Int))) ∧ ∀ j, j < l.length → w.frozen? ⟨g, j, none⟩ = false

section
variable {w w' : World} {g : Nat} {l : List UInt8}
theorem Own.lies (h : Own w g l) : Lies w (some ⟨g, 0, none⟩) (u8s l) := fun hn => ⟨_, rfl, fun j hj => by
  have hj' : j < l.length := by simpa [u8s] using hj
  have := h.1 j hj'
  simp only [u8s, List.getElem_map]
  rw [← this]
  congr 1
  unfold Addr.add
  split
  · next e => subst e; rfl
  · simp⟩
theorem Own.keep (h : Own w g l) (hb : w'.heap[g]? = w.heap[g]?) : Own w' g l :=
  ⟨fun j hj => (World.cell?_of_block (w := w) (a := ⟨g, j, none⟩) hb).trans (h.1 j hj), fun j hj => (World.frozen?_of_block (w := w) (a := ⟨g, j, none⟩) hb).trans (h.2 j hj)⟩
theorem Own.lt (h : Own w g l) (hl : 0 < l.length) : g < w.heap.size := lt_of_cell (h.1 0 hl)
theorem Own.below (h : Own w g l) {B : Nat} (hg : g < B) (hb : Below B w w') : Own w' g l := h.keep (hb.block g hg)
theorem Own.drew (h : Own w g l) : Own w.drew g l := h
theorem Own.alloc (h : Own w g l) (hg : g < w.heap.size) (o : Obj) : Own (w.alloc o) g l := h.keep (Below.heap_alloc w o g hg)
theorem Own.grown (h : Own w g l) (hg : g < w.heap.size) {r : Nat} (hr : g ≠ r) (hb : w.grownBy w' (some r)) : Own w' g l := h.keep (hb.block g hg (fun e => hr (by injection e)))
theorem Own.set (h : Own w g l) (i : Nat) (hi : i < l.length) (b : UInt8) : Own (w.setCell ⟨g, i, none⟩ (.int .u8 (b.toNat : Int))) g (l.set i b) := by
  refine ⟨fun j hj => ?_, fun j hj => ?_⟩
  · rw [List.length_set] at hj
    by_cases e : i = j
    · subst e
      rw [World.cell?_setCell_same _ _ _ (h.1 i hi)]
      simp
    · have hne : (⟨g, i, none⟩ : Addr) ≠ ⟨g, j, none⟩ := fun h => e (by injection h)
      rw [World.cell?_setCell_other w _ _ _ hne, h.1 j hj, List.getElem_set_ne e]
  · rw [List.length_set] at hj
    rw [World.frozen?_setCell]
    exact h.2 j hj
theorem Own.nil : Own w g [] := ⟨fun j h => absurd h (by simp), fun j h => absurd h (by simp)⟩
theorem Own.length_eq {l' : List UInt8} (h : Own w g l) (e : l = l') : Own w g l' := e ▸ h
end

theorem only_setCell {a w : World} {g : Nat} (h : a.grownBy w (some g)) {p : Addr} (hp : p.block = g) (u : Value) : a.grownBy (w.setCell p u) (some g) :=
  ⟨h.os, h.tape, h.output, by simpa [World.setCell] using h.size, fun i hi hne => (Below.heap_setCell w p u i (by
    rintro rfl
    exact hne (by rw [hp]))).trans (h.block i hi hne)⟩
theorem only_below {a w : World} {g B : Nat} (h : a.grownBy w (some g)) (hg : B ≤ g) (hB : B ≤ a.heap.size) : Below B a w := (Below.refl _ _).grown h hB (fun k hk => by injection hk with hk; omega)

theorem u32_nat {a : Int} (h : (Lit.int .u32 a).wf = true) : ∃ n : Nat, n < 4294967296 ∧ a = n := by
  have := bounds_u32 h
  exact ⟨a.toNat, by omega, by omega⟩
theorem retS {a b : List UInt8} (h : a = b) : Ending.returned (.string ⟨a.toArray⟩) = .returned (.string ⟨b.toArray⟩) := by rw [h]
theorem retSB {a b : ByteArray} {p : Bool} (h : a = b) : Ending.returned (.tuple #[.string a, .bool p]) = .returned (.tuple #[.string b, .bool p]) := by rw [h]
theorem below_drewL {w w' : World} (h : Below w.drew.heap.size w.drew w') : Below w.heap.size w w' := ⟨h.os, h.tape, h.output, h.size, h.block⟩
/-- A world that a call leaves, held against one from which its world was grown. -/
theorem below_call {a W w' : World} (h : Below a.heap.size a W) (hb : Below W.heap.size W w') : Below a.heap.size a w' := h.trans (hb.mono h.size)
theorem drew_call {W w' : World} (hb : Below W.drew.heap.size W.drew w') : Below W.heap.size W w' := ⟨hb.os, hb.tape, hb.output, hb.size, hb.block⟩
theorem below_drewN' {B : Nat} {a w : World} (h : Below B a w) (n : Nat) : Below B a (w.drewN n) := ⟨h.os, h.tape, h.output, h.size, h.block⟩
theorem bcell {W w1 : World} (hb : Below W.heap.size W w1) : ∀ b o, b < W.heap.size → w1.cell? ⟨b, o, none⟩ = W.cell? ⟨b, o, none⟩ := fun b o h => hb.cell (p := ⟨b, o, none⟩) h
theorem le_alloc (w : World) (o : Obj) : w.heap.size ≤ (w.alloc o).heap.size := by simp
theorem u8s_take (l : List UInt8) (i : Nat) : u8s (l.take i) = (u8s l).take i := by simp [u8s, List.map_take]
theorem u8s_drop (l : List UInt8) (i : Nat) : u8s (l.drop i) = (u8s l).drop i := by simp [u8s, List.map_drop]
theorem add_add (a : Addr) (i j : Nat) : (a.add i).add j = a.add (i + j) := by
  unfold Addr.add
  by_cases hi : i = 0 <;> by_cases hj : j = 0 <;> simp [hi, hj, Nat.add_assoc]
theorem add_zero' (a : Addr) : a.add 0 = a := by unfold Addr.add; simp
theorem str_snoc (a : List UInt8) (b : UInt8) : ({ data := a.toArray } ++ { data := #[b] } : ByteArray) = { data := (a ++ [b]).toArray } := ByteArray.mk_append_mk a [b]
/-- What the walk is told of a slice of integers that came in. -/
def IsRow (k : IntKind) (w : World) (a : Option Addr) (len cap : Nat) (zs : List Int) : Prop :=
  (a = none ∧ len = 0 ∧ cap = 0 ∧ zs = []) ∨
  ∃ x, a = some x ∧ len ≤ cap ∧ cap ≤ maxLen ∧ zs.length = cap ∧ (∀ i, i < zs.length → w.cell? (x.add i) = some (.int k (zs.getD i 0))) ∧ ∀ n ∈ zs, (Lit.int k n).wf = true
theorem row_u8 {w : World} {a : Option Addr} {len cap : Nat} {zs : List Int} (h : IsRow .u8 w a len cap zs) : ∃ l : List UInt8, len = l.length ∧ Lies w a (u8s l) := by
  rcases h with ⟨rfl, rfl, rfl, rfl⟩ | ⟨x, rfl, hl, hm, hz, hc, hw⟩
  · exact ⟨[], rfl, Lies.nil⟩
  · refine ⟨(zs.take len).map fun n => UInt8.ofNat n.toNat, by simp; omega, fun _ => ⟨x, rfl, fun j hj => ?_⟩⟩
    have hj' : j < len := by simp [u8s] at hj; omega
    have hjz : j < zs.length := by omega
    rw [hc j hjz]
    obtain ⟨n, hn, e⟩ := u8_nat (hw zs[j] (List.getElem_mem _))
    simp [u8s, List.getD, List.getElem?_eq_getElem hjz, e]
    omega
theorem row_u8c {w : World} {a : Option Addr} {len cap : Nat} {zs : List Int} (h : IsRow .u8 w a len cap zs) : len ≤ cap := by
  rcases h with ⟨rfl, rfl, rfl, rfl⟩ | ⟨x, rfl, hl, hm, hz, hc, hw⟩
  · exact Nat.le_refl _
  · exact hl
theorem row_u64 {w : World} {a : Option Addr} {len cap : Nat} {zs : List Int} (h : IsRow .u64 w a len cap zs) : ∃ l : List Nat, len = l.length ∧ Lies w a (u64s l) ∧ ∀ n ∈ l, n < 18446744073709551616 := by
  rcases h with ⟨rfl, rfl, rfl, rfl⟩ | ⟨x, rfl, hl, hm, hz, hc, hw⟩
  · exact ⟨[], rfl, Lies.nil, by simp⟩
  · refine ⟨(zs.take len).map Int.toNat, by simp; omega, fun _ => ⟨x, rfl, fun j hj => ?_⟩, fun n hn => ?_⟩
    · have hj' : j < len := by simp [u64s] at hj; omega
      have hjz : j < zs.length := by omega
      rw [hc j hjz]
      obtain ⟨n, hn, e⟩ := u64_nat (hw zs[j] (List.getElem_mem _))
      simp [u64s, List.getD, List.getElem?_eq_getElem hjz, e]
    · simp only [List.mem_map] at hn
      obtain ⟨z, hz1, rfl⟩ := hn
      obtain ⟨n, hn, e⟩ := u64_nat (hw z (List.mem_of_mem_take hz1))
      omega
theorem i64_range {a : Int} (h : (Lit.int .i64 a).wf = true) : -9223372036854775808 ≤ a ∧ a ≤ 9223372036854775807 := by
  have := bounds_i64 h
  omega
theorem grown_trans {a b c : World} (h : Grown a b) (g : Grown b c) : Grown a c := ⟨World.keptBut_trans h.1 g.1, fun x => (g.2.1 x).trans (h.2.1 x), Nat.le_trans h.2.2 g.2.2⟩
theorem grown_drewN {a b : World} (h : Grown a b) (n : Nat) : Grown a (b.drewN n) := h
end Go.Proofs.Ytbkdlblpoohliaa
