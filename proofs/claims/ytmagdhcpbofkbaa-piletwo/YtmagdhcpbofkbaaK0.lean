/-
  Words for memory and numbers that all layers use: no function of the program, no type by its number.
-/
import Derived.Test.YtmagdhcpbofkbaaRows
import Derived.WalkKit
import Derived.WalkSpells
import Derived.WalkLawsBesides
import Derived.ProofKit
import Derived.OpenShut
import Derived.BigQuiet
import Derived.Outline
import Derived.Lib.Hide
import Derived.Laws.IdiomStrings
import Derived.Deep.Draws
import Derived.Deep.OwnRows
import Derived.Deep.QuietTactic
import Derived.RegionTactic
import Derived.Deep.RegionWith
import Derived.Deep.RegionHeld3
namespace Go.Proofs.Ytmagdhcpbofkbaa
open Go.ChangeShapes Go.WideShapes Go.ChangeAt Go.RowKit
set_option linter.unusedVariables false

theorem ret1 {k : IntKind} {a b : Int} (h : a = b) : Ending.returned (.int k a) = .returned (.int k b) := by rw [h]
theorem retB {p q : Bool} (h : p = q) : Ending.returned (.bool p) = .returned (.bool q) := by rw [h]
theorem ret2 {k : IntKind} {a b : Int} {p q : Bool} (h : a = b) (g : p = q) : Ending.returned (.tuple #[.int k a, .bool p]) = .returned (.tuple #[.int k b, .bool q]) := by rw [h, g]
theorem wrapU (n : Int) : IntKind.u64.wrap n = n % 18446744073709551616 := IntKind.wrap_u64 n
theorem u64_nat {a : Int} (h : (Lit.int .u64 a).wf = true) : ∃ n : Nat, n < 18446744073709551616 ∧ a = n := by
  have := bounds_u64 h
  exact ⟨a.toNat, by omega, by omega⟩
theorem u8_nat {a : Int} (h : (Lit.int .u8 a).wf = true) : ∃ n : Nat, n < 256 ∧ a = n := by
  have := bounds_u8 h
  exact ⟨a.toNat, by omega, by omega⟩

theorem block_of_add (a : Addr) (n : Nat) : (a.add n).block = a.block := by unfold Addr.add; split <;> rfl
theorem lt_of_cell {w : World} {p : Addr} {v : Value} (h : w.cell? p = some v) : p.block < w.heap.size := by
  rcases Nat.lt_or_ge p.block w.heap.size with hl | hl
  · exact hl
  · exfalso
    unfold World.cell? at h
    rw [Array.getElem?_eq_none hl] at h
    cases h

/-- A slice's address at which some cells lie, one behind the other. -/
def Lies (w : World) (A : Option Addr) (xs : List Value) : Prop :=
  0 < xs.length → ∃ ad, A = some ad ∧ ∀ j (h : j < xs.length), w.cell? (ad.add j) = some xs[j]
def u8s (l : List UInt8) : List Value := l.map fun b => .int .u8 (b.toNat : Int)
def u64s (l : List Nat) : List Value := l.map fun (n : Nat) => .int .u64 (n : Int)
theorem u8s_length (l : List UInt8) : (u8s l).length = l.length := by simp [u8s]
theorem u64s_length (l : List Nat) : (u64s l).length = l.length := by simp [u64s]

section
variable {w w' : World} {A : Option Addr} {xs : List Value}
theorem Lies.keep (h : Lies w A xs) (hb : ∀ p : Addr, p.block < w.heap.size → w'.cell? p = w.cell? p) : Lies w' A xs := fun hn => by
  obtain ⟨ad, e, hc⟩ := h hn
  exact ⟨ad, e, fun j hj => (hb _ (lt_of_cell (hc j hj))).trans (hc j hj)⟩
theorem Lies.below (h : Lies w A xs) (hb : Below w.heap.size w w') : Lies w' A xs := h.keep fun _ hp => hb.cell hp
theorem Lies.drew (h : Lies w A xs) : Lies w.drew A xs := h
theorem Lies.drewN (h : Lies w A xs) (n : Nat) : Lies (w.drewN n) A xs := h
theorem Lies.alloc (h : Lies w A xs) (o : Obj) : Lies (w.alloc o) A xs := h.keep fun p hp => World.cell?_alloc_lt w o p hp
theorem Lies.nil : Lies w A [] := fun h => absurd h (by simp)
end

/-- A row of bytes that may be written, from the head of a block on. -/
def Own (w : World) (g : Nat) (l : List UInt8) : Prop :=
  (∀ j (h : j < l.length), w.cell? ⟨g, j, none⟩ = some (.int .u8 (l[j].toNat : Int))) ∧ ∀ j, j < l.length → w.frozen? ⟨g, j, none⟩ = false

section
variable {w w' : World} {g : Nat} {l : List UInt8}
theorem Own.lies (h : Own w g l) : Lies w (some ⟨g, 0, none⟩) (u8s l) := fun hn => ⟨_, rfl, fun j hj => by
  have hj' : j < l.length := by simpa [u8s] using hj
  have := h.1 j hj'
  simp only [u8s, List.getElem_map]
  rw [← this]
  congr 1
  unfold Addr.add
  split
  · next e => subst e; rfl
  · simp⟩
theorem Own.keep (h : Own w g l) (hb : w'.heap[g]? = w.heap[g]?) : Own w' g l :=
  ⟨fun j hj => (World.cell?_of_block (w := w) (a := ⟨g, j, none⟩) hb).trans (h.1 j hj), fun j hj => (World.frozen?_of_block (w := w) (a := ⟨g, j, none⟩) hb).trans (h.2 j hj)⟩
theorem Own.lt (h : Own w g l) (hl : 0 < l.length) : g < w.heap.size := lt_of_cell (h.1 0 hl)
theorem Own.below (h : Own w g l) {B : Nat} (hg : g < B) (hb : Below B w w') : Own w' g l := h.keep (hb.block g hg)
theorem Own.drew (h : Own w g l) : Own w.drew g l := h
theorem Own.alloc (h : Own w g l) (hg : g < w.heap.size) (o : Obj) : Own (w.alloc o) g l := h.keep (Below.heap_alloc w o g hg)
theorem Own.grown (h : Own w g l) (hg : g < w.heap.size) {r : Nat} (hr : g ≠ r) (hb : w.grownBy w' (some r)) : Own w' g l := h.keep (hb.block g hg (fun e => hr (by injection e)))
theorem Own.set (h : Own w g l) (i : Nat) (hi : i < l.length) (b : UInt8) : Own (w.setCell ⟨g, i, none⟩ (.int .u8 (b.toNat : Int))) g (l.set i b) := by
  refine ⟨fun j hj => ?_, fun j hj => ?_⟩
  · rw [List.length_set] at hj
    by_cases e : i = j
    · subst e
      rw [World.cell?_setCell_same _ _ _ (h.1 i hi)]
      simp
    · have hne : (⟨g, i, none⟩ : Addr) ≠ ⟨g, j, none⟩ := fun h => e (by injection h)
      rw [World.cell?_setCell_other w _ _ _ hne, h.1 j hj, List.getElem_set_ne e]
  · rw [List.length_set] at hj
    rw [World.frozen?_setCell]
    exact h.2 j hj
theorem Own.nil : Own w g [] := ⟨fun j h => absurd h (by simp), fun j h => absurd h (by simp)⟩
theorem Own.length_eq {l' : List UInt8} (h : Own w g l) (e : l = l') : Own w g l' := e ▸ h
end

theorem only_setCell {a w : World} {g : Nat} (h : a.grownBy w (some g)) {p : Addr} (hp : p.block = g) (u : Value) : a.grownBy (w.setCell p u) (some g) :=
  ⟨h.os, h.tape, h.output, by simpa [World.setCell] using h.size, fun i hi hne => (Below.heap_setCell w p u i (by
    rintro rfl
    exact hne (by rw [hp]))).trans (h.block i hi hne)⟩
theorem only_below {a w : World} {g B : Nat} (h : a.grownBy w (some g)) (hg : B ≤ g) (hB : B ≤ a.heap.size) : Below B a w := (Below.refl _ _).grown h hB (fun k hk => by injection hk with hk; omega)

theorem u32_nat {a : Int} (h : (Lit.int .u32 a).wf = true) : ∃ n : Nat, n < 4294967296 ∧ a = n := by
  have := bounds_u32 h
  exact ⟨a.toNat, by omega, by omega⟩
theorem retS {a b : List UInt8} (h : a = b) : Ending.returned (.string ⟨a.toArray⟩) = .returned (.string ⟨b.toArray⟩) := by rw [h]
theorem retSB {a b : ByteArray} {p : Bool} (h : a = b) : Ending.returned (.tuple #[.string a, .bool p]) = .returned (.tuple #[.string b, .bool p]) := by rw [h]
theorem below_drewL {w w' : World} (h : Below w.drew.heap.size w.drew w') : Below w.heap.size w w' := ⟨h.os, h.tape, h.output, h.size, h.block⟩
/-- A world that a call leaves, held against one from which its world was grown. -/
theorem below_call {a W w' : World} (h : Below a.heap.size a W) (hb : Below W.heap.size W w') : Below a.heap.size a w' := h.trans (hb.mono h.size)
theorem drew_call {W w' : World} (hb : Below W.drew.heap.size W.drew w') : Below W.heap.size W w' := ⟨hb.os, hb.tape, hb.output, hb.size, hb.block⟩
theorem below_drewN' {B : Nat} {a w : World} (h : Below B a w) (n : Nat) : Below B a (w.drewN n) := ⟨h.os, h.tape, h.output, h.size, h.block⟩
theorem bcell {W w1 : World} (hb : Below W.heap.size W w1) : ∀ b o, b < W.heap.size → w1.cell? ⟨b, o, none⟩ = W.cell? ⟨b, o, none⟩ := fun b o h => hb.cell (p := ⟨b, o, none⟩) h
theorem le_alloc (w : World) (o : Obj) : w.heap.size ≤ (w.alloc o).heap.size := by simp
theorem u8s_take (l : List UInt8) (i : Nat) : u8s (l.take i) = (u8s l).take i := by simp [u8s, List.map_take]
theorem u8s_drop (l : List UInt8) (i : Nat) : u8s (l.drop i) = (u8s l).drop i := by simp [u8s, List.map_drop]
theorem add_add (a : Addr) (i j : Nat) : (a.add i).add j = a.add (i + j) := by
  unfold Addr.add
  by_cases hi : i = 0 <;> by_cases hj : j = 0 <;> simp [hi, hj, Nat.add_assoc]
theorem add_zero' (a : Addr) : a.add 0 = a := by unfold Addr.add; simp
theorem str_snoc (a : List UInt8) (b : UInt8) : ({ data := a.toArray } ++ { data := #[b] } : ByteArray) = { data := (a ++ [b]).toArray } := ByteArray.mk_append_mk a [b]
/-- What the walk is told of a slice of integers that came in. -/
def IsRow (k : IntKind) (w : World) (a : Option Addr) (len cap : Nat) (zs : List Int) : Prop :=
  (a = none ∧ len = 0 ∧ cap = 0 ∧ zs = []) ∨
  ∃ x, a = some x ∧ len ≤ cap ∧ cap ≤ maxLen ∧ zs.length = cap ∧ (∀ i, i < zs.length → w.cell? (x.add i) = some (.int k (zs.getD i 0))) ∧ ∀ n ∈ zs, (Lit.int k n).wf = true
theorem row_u8 {w : World} {a : Option Addr} {len cap : Nat} {zs : List Int} (h : IsRow .u8 w a len cap zs) : ∃ l : List UInt8, len = l.length ∧ Lies w a (u8s l) := by
  rcases h with ⟨rfl, rfl, rfl, rfl⟩ | ⟨x, rfl, hl, hm, hz, hc, hw⟩
  · exact ⟨[], rfl, Lies.nil⟩
  · refine ⟨(zs.take len).map fun n => UInt8.ofNat n.toNat, by simp; omega, fun _ => ⟨x, rfl, fun j hj => ?_⟩⟩
    have hj' : j < len := by simp [u8s] at hj; omega
    have hjz : j < zs.length := by omega
    rw [hc j hjz]
    obtain ⟨n, hn, e⟩ := u8_nat (hw zs[j] (List.getElem_mem _))
    simp [u8s, List.getD, List.getElem?_eq_getElem hjz, e]
    omega
theorem row_u8c {w : World} {a : Option Addr} {len cap : Nat} {zs : List Int} (h : IsRow .u8 w a len cap zs) : len ≤ cap := by
  rcases h with ⟨rfl, rfl, rfl, rfl⟩ | ⟨x, rfl, hl, hm, hz, hc, hw⟩
  · exact Nat.le_refl _
  · exact hl
theorem row_u64 {w : World} {a : Option Addr} {len cap : Nat} {zs : List Int} (h : IsRow .u64 w a len cap zs) : ∃ l : List Nat, len = l.length ∧ Lies w a (u64s l) ∧ ∀ n ∈ l, n < 18446744073709551616 := by
  rcases h with ⟨rfl, rfl, rfl, rfl⟩ | ⟨x, rfl, hl, hm, hz, hc, hw⟩
  · exact ⟨[], rfl, Lies.nil, by simp⟩
  · refine ⟨(zs.take len).map Int.toNat, by simp; omega, fun _ => ⟨x, rfl, fun j hj => ?_⟩, fun n hn => ?_⟩
    · have hj' : j < len := by simp [u64s] at hj; omega
      have hjz : j < zs.length := by omega
      rw [hc j hjz]
      obtain ⟨n, hn, e⟩ := u64_nat (hw zs[j] (List.getElem_mem _))
      simp [u64s, List.getD, List.getElem?_eq_getElem hjz, e]
    · simp only [List.mem_map] at hn
      obtain ⟨z, hz1, rfl⟩ := hn
      obtain ⟨n, hn, e⟩ := u64_nat (hw z (List.mem_of_mem_take hz1))
      omega
theorem i64_range {a : Int} (h : (Lit.int .i64 a).wf = true) : -9223372036854775808 ≤ a ∧ a ≤ 9223372036854775807 := by
  have := bounds_i64 h
  omega
theorem grown_trans {a b c : World} (h : Grown a b) (g : Grown b c) : Grown a c := ⟨World.keptBut_trans h.1 g.1, fun x => (g.2.1 x).trans (h.2.1 x), Nat.le_trans h.2.2 g.2.2⟩
theorem grown_drewN {a b : World} (h : Grown a b) (n : Nat) : Grown a (b.drewN n) := h
end Go.Proofs.Ytmagdhcpbofkbaa
/-
  Plain mathematics of powers of two and of sums below 2^64, over Nat: no program in sight.
-/
namespace Go.Proofs.Ytmagdhcpbofkbaa.M

/-- How many binary digits a number has. -/
def size (n : Nat) : Nat := if h : n = 0 then 0 else size (n / 2) + 1
termination_by n
decreasing_by omega

/-- How many of its binary digits are one. -/
def ones (n : Nat) : Nat := if h : n = 0 then 0 else ones (n / 2) + n % 2
termination_by n
decreasing_by omega

def powB (n : Nat) : Bool := n != 0 && (n &&& (n - 1)) == 0
def addB (a b : Nat) : Bool := decide (a + b < 18446744073709551616)
def addV (a b : Nat) : Nat := if a + b < 18446744073709551616 then a + b else 0
def upB (n a : Nat) : Bool := powB a && (n % a == 0 || addB n (a - n % a))
def upV (n a : Nat) : Nat := if powB a = true then (if n % a = 0 then n else addV n (a - n % a)) else 0
def inB (s n z : Nat) : Bool := addB s n && decide (addV s n ≤ z)
def pgs (n : Nat) : Nat := if n % 4096 = 0 then n / 4096 else n / 4096 + 1

theorem size_zero : size 0 = 0 := by rw [size]; simp
theorem size_pos (n : Nat) (h : n ≠ 0) : size n = size (n / 2) + 1 := by rw [size]; simp [h]
theorem ones_zero : ones 0 = 0 := by rw [ones]; simp
theorem ones_pos (n : Nat) (h : n ≠ 0) : ones n = ones (n / 2) + n % 2 := by rw [ones]; simp [h]

theorem lt_pow_iff (n : Nat) : ∀ k, n < 2 ^ k ↔ size n ≤ k := by
  induction n using Nat.strongRecOn with
  | _ n ih =>
    intro k
    by_cases h : n = 0
    · subst h; rw [size_zero]; simp [Nat.two_pow_pos]
    · rw [size_pos n h]
      cases k with
      | zero => simp; omega
      | succ k =>
        have := ih (n / 2) (by omega) k
        rw [Nat.pow_succ]
        omega

theorem size_le (n : Nat) (h : n < 18446744073709551616) : size n ≤ 64 := (lt_pow_iff n 64).1 h
theorem size_ge_one (n : Nat) (h : n ≠ 0) : 1 ≤ size n := by rw [size_pos n h]; omega
theorem le_pow_iff (n k : Nat) : n ≤ 2 ^ k ↔ size (n - 1) ≤ k := by
  rw [← lt_pow_iff]
  have := Nat.two_pow_pos k
  omega

theorem ones_le (n : Nat) : ones n ≤ size n := by
  induction n using Nat.strongRecOn with
  | _ n ih =>
    by_cases h : n = 0
    · subst h; rw [ones_zero]; omega
    · rw [ones_pos n h, size_pos n h]
      have := ih (n / 2) (by omega)
      omega
theorem ones_eq_zero (n : Nat) : ones n = 0 ↔ n = 0 := by
  induction n using Nat.strongRecOn with
  | _ n ih =>
    by_cases h : n = 0
    · subst h; simp [ones_zero]
    · rw [ones_pos n h]
      have := ih (n / 2) (by omega)
      omega

theorem and_even (m k : Nat) : (2 * m) &&& (2 * k + 1) = 2 * (m &&& k) := by
  apply Nat.eq_of_testBit_eq
  intro i
  cases i with
  | zero => simp
  | succ i => rw [Nat.testBit_and, Nat.testBit_succ, Nat.testBit_succ, Nat.testBit_succ, show 2 * m / 2 = m by omega, show (2 * k + 1) / 2 = k by omega, show 2 * (m &&& k) / 2 = m &&& k by omega, Nat.testBit_and]
theorem and_odd (m k : Nat) : (2 * m + 1) &&& (2 * k) = 2 * (m &&& k) := by
  rw [Nat.and_comm, and_even, Nat.and_comm]

theorem pow_iff_ones (n : Nat) : (n ≠ 0 ∧ n &&& (n - 1) = 0) ↔ ones n = 1 := by
  induction n using Nat.strongRecOn with
  | _ n ih =>
    by_cases h : n = 0
    · subst h; simp [ones_zero]
    · rw [ones_pos n h]
      have i := ih (n / 2) (by omega)
      have z := ones_eq_zero (n / 2)
      by_cases p : n % 2 = 0
      · have e1 : n = 2 * (n / 2) := by omega
        have e2 : n - 1 = 2 * (n / 2 - 1) + 1 := by omega
        have e3 : n &&& (n - 1) = 2 * (n / 2 &&& (n / 2 - 1)) := by
          rw [e2]; conv => lhs; lhs; rw [e1]
          exact and_even _ _
        rw [e3, p]
        constructor
        · rintro ⟨_, h2⟩; exact i.1 ⟨by omega, by omega⟩
        · intro h2; exact ⟨h, by have := (i.2 h2).2; omega⟩
      · have e1 : n = 2 * (n / 2) + 1 := by omega
        have e2 : n - 1 = 2 * (n / 2) := by omega
        have e3 : n &&& (n - 1) = 2 * (n / 2) := by
          rw [e2]; conv => lhs; lhs; rw [e1]
          rw [and_odd, Nat.and_self]
        rw [e3, show n % 2 = 1 by omega]
        omega

theorem powB_ones (n : Nat) : (ones n == 1) = powB n := by
  have := pow_iff_ones n
  unfold powB
  rw [Bool.eq_iff_iff]
  simp only [beq_iff_eq, Bool.and_eq_true, bne_iff_ne]
  exact this.symm

theorem ones_two_pow (n : Nat) : ones n = 1 → n = 2 ^ (size n - 1) := by
  induction n using Nat.strongRecOn with
  | _ n ih =>
    by_cases h : n = 0
    · subst h; simp [ones_zero]
    · rw [ones_pos n h, size_pos n h]
      intro h1
      by_cases p : n % 2 = 0
      · have e := ih (n / 2) (by omega) (by omega)
        have hz : n / 2 ≠ 0 := by intro h0; rw [h0, ones_zero] at h1; omega
        have s := size_ge_one (n / 2) hz
        have : 2 ^ (size (n / 2) + 1 - 1) = 2 * 2 ^ (size (n / 2) - 1) := by
          rw [Nat.add_sub_cancel, Nat.mul_comm, ← Nat.pow_succ]; congr 1; omega
        omega
      · have z := ones_eq_zero (n / 2)
        have : n / 2 = 0 := by omega
        rw [this, size_zero]; simp; omega
theorem powB_eq (a : Nat) (h : powB a = true) : a = 2 ^ (size a - 1) := ones_two_pow a (by have := powB_ones a; rw [h] at this; simpa using this)
theorem powB_pos (a : Nat) (h : powB a = true) : 0 < a := by unfold powB at h; simp at h; omega
theorem powB_two_pow (k : Nat) : powB (2 ^ k) = true := by
  rw [← powB_ones]
  induction k with
  | zero => rw [ones_pos 1 (by decide)]; simp [ones_zero]
  | succ k ih =>
    have hp : 2 ^ (k + 1) = 2 * 2 ^ k := by rw [Nat.pow_succ]; omega
    have := Nat.two_pow_pos k
    rw [ones_pos _ (by omega), hp, show 2 * 2 ^ k / 2 = 2 ^ k by omega, show 2 * 2 ^ k % 2 = 0 by omega]
    simpa using ih
theorem and_mask (n a : Nat) (h : powB a = true) : n &&& (a - 1) = n % a := by
  rw [powB_eq a h]; exact Nat.and_two_pow_sub_one_eq_mod _ _

theorem addV_lt (a b : Nat) : addV a b < 18446744073709551616 := by unfold addV; split <;> omega
theorem upV_lt (n a : Nat) (h : n < 18446744073709551616) : upV n a < 18446744073709551616 := by
  unfold upV
  split
  · split
    · exact h
    · exact addV_lt _ _
  · decide
theorem pgs_le (n : Nat) (h : n < 18446744073709551616) : pgs n ≤ 4503599627370496 := by unfold pgs; split <;> omega
end Go.Proofs.Ytmagdhcpbofkbaa.M
/-
  Short forms of the moves of a drawn region's walk: an operation is named by what it does alone.
-/
namespace Go.Proofs.Ytmagdhcpbofkbaa
set_option linter.unusedVariables false
theorem yI {α : Type _} (l : List α) (i : Nat) (a : α) : l.toArray.setIfInBounds i a = (l.set i a).toArray := List.setIfInBounds_toArray l i a
theorem yZ {α : Type _} (x y : α) (l : List α) : (x :: l).set 0 y = y :: l := rfl
theorem yS {α : Type _} (x y : α) (l : List α) (n : Nat) : (x :: l).set (n + 1) y = x :: l.set n y := rfl
section
variable {P : Program} {ops : Array Oper} {Q : Exit → Act → World → Prop} {md : Region.Mode} {S : World → Prop}
theorem tkA (i : Nat) (dst : Option Tmp) (op : Op) (ty : TypeId) {po : String} {af : Array Edge} {gu : Option (Nat × Bool)} {v : Value} {fuel : Nat} {listed : Array Bool} {a : Act} {w : World} (hi : ops[i]? = some ⟨dst, op, ty, po, af, gu⟩)
    (hb : (Region.noSelect ops && (Region.free md ops listed i && ((Region.ready md ops listed).contains i && Region.wanted ⟨dst, op, ty, po, af, gu⟩ (yielded ops a.tmps)))) = true)
    (hr : ∀ w, S w → (execOp a.eval ⟨dst, op, ty, "", #[], none⟩).run P w = .ok (.value v) w) (hS : S w)
    (h : wpAnyH P md ops (NoPanic Q) S fuel (listed.setIfInBounds i true) (a.put dst v) w) : wpAnyH P md ops (NoPanic Q) S (fuel + 1) listed a w := by
  simp only [Bool.and_eq_true] at hb
  exact wpAnyH_take hi hb.1 hb.2.1 hb.2.2.1 (fun _ _ _ h => h) (.inl ⟨hb.2.2.2, hr⟩) hS h
/-- .. of an operation that has a name. -/
theorem tkN (i : Nat) (o : Oper) {v : Value} {fuel : Nat} {listed : Array Bool} {a : Act} {w : World} (hi : ops[i]? = some o)
    (hb : (Region.noSelect ops && (Region.free md ops listed i && ((Region.ready md ops listed).contains i && Region.wanted o (yielded ops a.tmps)))) = true)
    (hr : ∀ w, S w → (execOp a.eval o).run P w = .ok (.value v) w) (hS : S w)
    (h : wpAnyH P md ops (NoPanic Q) S fuel (listed.setIfInBounds i true) (a.put o.dst v) w) : wpAnyH P md ops (NoPanic Q) S (fuel + 1) listed a w := by
  simp only [Bool.and_eq_true] at hb
  exact wpAnyH_take hi hb.1 hb.2.1 hb.2.2.1 (fun _ _ _ h => h) (.inl ⟨hb.2.2.2, hr⟩) hS h
theorem tkO (i : Nat) (dst : Option Tmp) {op : Op} {ty : TypeId} {po : String} {af : Array Edge} {gu : Option (Nat × Bool)} {fuel : Nat} {listed : Array Bool} {a : Act} {w : World} (hi : ops[i]? = some ⟨dst, op, ty, po, af, gu⟩)
    (hb : (Region.noSelect ops && (Region.free md ops listed i && ((Region.ready md ops listed).contains i && !Region.wanted ⟨dst, op, ty, po, af, gu⟩ (yielded ops a.tmps)))) = true) (hS : S w)
    (h : wpAnyH P md ops (NoPanic Q) S fuel (listed.setIfInBounds i true) (a.put dst undef) w) : wpAnyH P md ops (NoPanic Q) S (fuel + 1) listed a w := by
  simp only [Bool.and_eq_true, Bool.not_eq_true'] at hb
  exact wpAnyH_take hi hb.1 hb.2.1 hb.2.2.1 (fun _ _ _ h => h) (.inr ⟨hb.2.2.2, rfl⟩) hS h
theorem rcA {i : Nat} (dst : Option Tmp) (op : Op) (ty : TypeId) {po : String} {af : Array Edge} {gu : Option (Nat × Bool)} {rs : List Nat} {fuel : Nat} {listed : Array Bool} {a : Act} {w : World} (hi : ops[i]? = some ⟨dst, op, ty, po, af, gu⟩) (hw : Region.wanted ⟨dst, op, ty, po, af, gu⟩ (yielded ops a.tmps) = true)
    (h : ∀ K : Act → World → Prop, Shut (∀ a w, S w → (S w → wpAnyH P md ops Q S fuel (listed.setIfInBounds i true) a w) → K a w) → Oper.wp P ⟨dst, op, ty, "", #[], none⟩ a w K Q)
    (hs : AllReadyH P md ops Q S fuel listed a w rs) : AllReadyH P md ops Q S fuel listed a w (i :: rs) :=
  .cons hi (fun K hK => by rw [if_pos hw]; exact h K hK) hs
theorem rdA {rs : List Nat} {fuel : Nat} {listed : Array Bool} {a : Act} {w : World} (hr : Region.ready md ops listed = rs) (h : AllReadyH P md ops Q S fuel listed a w rs) (hne : rs.isEmpty = false) : wpAnyH P md ops Q S (fuel + 1) listed a w :=
  wpAnyH_ready hr (fun e => by rw [e] at hne; cases hne) h
/-- .. whose side conditions are theorems of their own (the kernel forgets what it saw of each). -/
theorem tkC (i : Nat) (dst : Option Tmp) (op : Op) (ty : TypeId) {po : String} {af : Array Edge} {gu : Option (Nat × Bool)} {v : Value} {fuel : Nat} {listed : Array Bool} {a : Act} {w : World} (hi : ops[i]? = some ⟨dst, op, ty, po, af, gu⟩)
    (hb : (Region.noSelect ops && (Region.free md ops listed i && (Region.ready md ops listed).contains i)) = true) (hw : Region.wanted ⟨dst, op, ty, po, af, gu⟩ (yielded ops a.tmps) = true)
    (hr : ∀ w, S w → (execOp a.eval ⟨dst, op, ty, "", #[], none⟩).run P w = .ok (.value v) w) (hS : S w)
    (h : wpAnyH P md ops (NoPanic Q) S fuel (listed.setIfInBounds i true) (a.put dst v) w) : wpAnyH P md ops (NoPanic Q) S (fuel + 1) listed a w := by
  simp only [Bool.and_eq_true] at hb
  exact wpAnyH_take hi hb.1 hb.2.1 hb.2.2 (fun _ _ _ h => h) (.inl ⟨hw, hr⟩) hS h
theorem tkP (i : Nat) (dst : Option Tmp) {op : Op} {ty : TypeId} {po : String} {af : Array Edge} {gu : Option (Nat × Bool)} {fuel : Nat} {listed : Array Bool} {a : Act} {w : World} (hi : ops[i]? = some ⟨dst, op, ty, po, af, gu⟩)
    (hb : (Region.noSelect ops && (Region.free md ops listed i && (Region.ready md ops listed).contains i)) = true) (hw : Region.wanted ⟨dst, op, ty, po, af, gu⟩ (yielded ops a.tmps) = false) (hS : S w)
    (h : wpAnyH P md ops (NoPanic Q) S fuel (listed.setIfInBounds i true) (a.put dst undef) w) : wpAnyH P md ops (NoPanic Q) S (fuel + 1) listed a w := by
  simp only [Bool.and_eq_true] at hb
  exact wpAnyH_take hi hb.1 hb.2.1 hb.2.2 (fun _ _ _ h => h) (.inr ⟨hw, rfl⟩) hS h
end
end Go.Proofs.Ytmagdhcpbofkbaa
