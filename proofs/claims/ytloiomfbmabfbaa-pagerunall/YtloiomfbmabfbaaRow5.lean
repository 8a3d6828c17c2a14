/-
  Runs in memory; the small functions: fits, end, some, rest, joined.
-/
import Derived.Test.YtloiomfbmabfbaaM5b
import Derived.Deep.Slices
import Derived.Deep.Fields
import Derived.Deep.AppendLies
import Derived.Deep.Upon
import Derived.Laws.IdiomCopy
import Derived.Lib.SliceRun
namespace Go.Proofs.Ytloiomfbmabfbaa
open Go.ChangeShapes Go.WideShapes Go.ChangeAt Go.RowKit Go.Deep
set_option linter.unusedVariables false
set_option maxRecDepth 20000

def runV (p n : Int) : Value := .agg #[.int .i64 p, .int .i64 n]
/-- A list of runs at a slice's address. -/
def Runs (w : World) (A : Option Addr) (l : List M.R) : Prop := 0 < l.length → ∃ bl o, A = some ⟨bl, o, none⟩ ∧ ∀ i (h : i < l.length), w.cell? ⟨bl, o + i * 2, none⟩ = some (.int .i64 l[i].p) ∧ w.cell? ⟨bl, o + i * 2 + 1, none⟩ = some (.int .i64 l[i].n)
section
variable {w w' : World} {A : Option Addr} {l : List M.R}
theorem Runs.keep (h : Runs w A l) (hb : ∀ p : Addr, p.block < w.heap.size → w'.cell? p = w.cell? p) : Runs w' A l := fun hn => by
  obtain ⟨bl, o, e, hc⟩ := h hn
  exact ⟨bl, o, e, fun i hi => ⟨(hb _ (lt_of_cell (hc i hi).1)).trans (hc i hi).1, (hb _ (lt_of_cell (hc i hi).2)).trans (hc i hi).2⟩⟩
theorem Runs.below (h : Runs w A l) (hb : Below w.heap.size w w') : Runs w' A l := h.keep fun _ hp => hb.cell hp
theorem Runs.alloc (h : Runs w A l) (o : Obj) : Runs (w.alloc o) A l := h.keep fun p hp => World.cell?_alloc_lt w o p hp
theorem Runs.drew (h : Runs w A l) : Runs w.drew A l := h
theorem Runs.drewN (h : Runs w A l) (n : Nat) : Runs (w.drewN n) A l := h
theorem Runs.nil : Runs w A [] := fun h => absurd h (by simp)
end

def fitsB (p n N : Int) : Bool := decide (0 ≤ p) && (decide (1 ≤ n) && decide (p + n ≤ N))
theorem fitsB_iff (p n N : Int) : fitsB p n N = true ↔ 0 ≤ p ∧ 1 ≤ n ∧ p + n ≤ N := by simp [fitsB]

set_option maxHeartbeats 1000000 in
theorem fits_any (w : World) (p n N : Int) (hN : N ≤ 9223372036854775807) :
    Calls Try.prog 33 #[.agg #[.int .i64 p, .int .i64 n], .int .i64 N] w fun e w' => e = .returned (.bool (fitsB p n N)) ∧ Below w.heap.size w w' := by
  have HS := Lib.hid (Below.refl w.heap.size w)
  have f0 : ¬ (0 ≤ p ∧ 1 ≤ n ∧ p + n ≤ N) → fitsB p n N = false := fun h => by rw [← Bool.not_eq_true, fitsB_iff]; exact h
  have f1 : (0 ≤ p ∧ 1 ≤ n ∧ p + n ≤ N) → fitsB p n N = true := fun h => (fitsB_iff p n N).2 h
  have F0 := Lib.hid f0
  have F1 := Lib.hid f1
  clear f0 f1
  go_enter Try.func33, Try.ntmps33
  by_cases c1 : 0 ≤ p
  · by_cases c2 : 1 ≤ n
    · by_cases c3 : p ≤ N
      · have hs : wrap64 (N - p) = N - p := by unfold wrap64; omega
        by_cases c4 : n ≤ N - p
        · go_wp2_with fail
          go_ret
          exact ⟨retB (by rw [F1.out ⟨c1, c2, by omega⟩]), (Below.refl _ _).alloc (Nat.le_refl _) _⟩
        · go_wp2_with fail
          go_ret
          exact ⟨retB (by rw [F0.out (by omega)]), (Below.refl _ _).alloc (Nat.le_refl _) _⟩
      · go_wp2_with fail
        go_ret
        exact ⟨retB (by rw [F0.out (by omega)]), (Below.refl _ _).alloc (Nat.le_refl _) _⟩
    · go_wp2_with fail
      go_ret
      exact ⟨retB (by rw [F0.out (by omega)]), (Below.refl _ _).alloc (Nat.le_refl _) _⟩
  · go_wp2_with fail
    go_ret
    exact ⟨retB (by rw [F0.out (by omega)]), (Below.refl _ _).alloc (Nat.le_refl _) _⟩

theorem end_any (w : World) (p n s : Int) (hs : p + n = s) (h1 : -9223372036854775808 ≤ s) (h2 : s ≤ 9223372036854775807) :
    Calls Try.prog 34 #[.agg #[.int .i64 p, .int .i64 n]] w fun e w' => e = .returned (.int .i64 s) ∧ Below w.heap.size w w' := by
  have hw : wrap64 (p + n) = s := by unfold wrap64; omega
  clear hs
  go_enter Try.func34, Try.ntmps34
  go_wp2_with fail
  go_ret
  exact ⟨ret1 hw, (Below.refl _ _).alloc (Nat.le_refl _) _⟩

set_option maxHeartbeats 1000000 in
theorem some_any (w : World) (p n : Int) (b : Bool) (hb : b = !(decide (p = 0) && decide (n = 0))) :
    Calls Try.prog 42 #[.agg #[.int .i64 p, .int .i64 n]] w fun e w' => e = .returned (.bool b) ∧ Below w.heap.size w w' := by
  have HB := Lib.hid hb
  clear hb
  go_enter Try.func42, Try.ntmps42
  by_cases c1 : p = 0
  · subst c1
    by_cases c2 : n = 0
    · subst c2
      go_wp2_with fail
      go_ret
      exact ⟨retB (by rw [HB.out]; rfl), (Below.refl _ _).alloc (Nat.le_refl _) _⟩
    · go_wp2_with fail
      go_ret
      exact ⟨retB (by rw [HB.out]; simp [c2]), (Below.refl _ _).alloc (Nat.le_refl _) _⟩
  · go_wp2_with fail
    go_ret
    exact ⟨retB (by rw [HB.out]; simp [c1]), (Below.refl _ _).alloc (Nat.le_refl _) _⟩

set_option maxHeartbeats 1000000 in
theorem rest_any (w : World) (p n k a b : Int) (ha : a = if n = k then 0 else p + k) (hb : b = n - k) (h1 : -9223372036854775808 ≤ p + k) (h2 : p + k ≤ 9223372036854775807) (h3 : -9223372036854775808 ≤ n - k) (h4 : n - k ≤ 9223372036854775807) :
    Calls Try.prog 41 #[.agg #[.int .i64 p, .int .i64 n], .int .i64 k] w fun e w' => e = .returned (.agg #[.int .i64 a, .int .i64 b]) ∧ Below w.heap.size w w' := by
  have bw : ∀ o1 o2, Below w.heap.size w ((w.alloc o1).alloc o2) := fun o1 o2 => ((Below.refl w.heap.size w).alloc (Nat.le_refl _) o1).alloc (by simp) o2
  have BW := Lib.hid bw
  clear bw
  go_enter Try.func41, Try.ntmps41
  by_cases c : n = k
  · have e1 : a = 0 := by rw [ha, if_pos c]
    have e2 : b = 0 := by omega
    clear ha hb h1 h2 h3 h4
    subst e1 e2 c
    go_wp2_with fail
    refine bodyPost_ret (v := .agg #[.int .i64 0, .int .i64 0]) ?_ rfl ?_
    · simp [results, go_sem]
    · exact ⟨rfl, BW.out _ _⟩
  · have e1 : a = p + k := by rw [ha, if_neg c]
    have s1 : wrap64 (p + k) = a := by unfold wrap64; omega
    have s2 : wrap64 (n - k) = b := by unfold wrap64; omega
    clear ha hb h1 h2 h3 h4 e1
    go_wp2_with fail
    rw [s1, s2]
    refine bodyPost_ret (v := .agg #[.int .i64 a, .int .i64 b]) ?_ rfl ?_
    · simp [results, go_sem]
    · exact ⟨rfl, BW.out _ _⟩

set_option maxHeartbeats 1000000 in
theorem joined_any (w : World) (p n q m s : Int) (hs : n + m = s) (h1 : -9223372036854775808 ≤ s) (h2 : s ≤ 9223372036854775807) :
    Calls Try.prog 37 #[.agg #[.int .i64 p, .int .i64 n], .agg #[.int .i64 q, .int .i64 m]] w fun e w' => e = .returned (.agg #[.int .i64 p, .int .i64 s]) ∧ Below w.heap.size w w' := by
  have bw : ∀ o1 o2 o3, Below w.heap.size w (((w.alloc o1).alloc o2).alloc o3) := fun o1 o2 o3 => (((Below.refl w.heap.size w).alloc (Nat.le_refl _) o1).alloc (by simp) o2).alloc (by simp; omega) o3
  have BW := Lib.hid bw
  have s1 : wrap64 (n + m) = s := by unfold wrap64; omega
  clear bw hs
  go_enter Try.func37, Try.ntmps37
  go_wp2_with fail
  rw [s1]
  refine bodyPost_ret (v := .agg #[.int .i64 p, .int .i64 s]) ?_ rfl ?_
  · simp [results, go_sem]
  · exact ⟨rfl, BW.out _ _ _⟩
/-- A variable that holds a run. -/
structure Box (w : World) (g : Nat) (p n : Int) : Prop where
  c0 : w.cell? ⟨g, 0, none⟩ = some (.int .i64 p)
  c1 : w.cell? ⟨g, 1, none⟩ = some (.int .i64 n)
  f0 : w.frozen? ⟨g, 0, none⟩ = false
  f1 : w.frozen? ⟨g, 1, none⟩ = false
section
variable {w w' : World} {g : Nat} {p n : Int}
theorem Box.lt (h : Box w g p n) : g < w.heap.size := lt_of_cell h.c0
theorem Box.keep (h : Box w g p n) (hb : w'.heap[g]? = w.heap[g]?) : Box w' g p n :=
  ⟨(World.cell?_of_block (w := w) (a := ⟨g, 0, none⟩) hb).trans h.c0, (World.cell?_of_block (w := w) (a := ⟨g, 1, none⟩) hb).trans h.c1, (World.frozen?_of_block (w := w) (a := ⟨g, 0, none⟩) hb).trans h.f0, (World.frozen?_of_block (w := w) (a := ⟨g, 1, none⟩) hb).trans h.f1⟩
theorem Box.below (h : Box w g p n) (hb : Below w.heap.size w w') : Box w' g p n := h.keep (hb.block g h.lt)
theorem Box.alloc (h : Box w g p n) (o : Obj) : Box (w.alloc o) g p n := h.keep (Below.heap_alloc w o g h.lt)
theorem Box.drew (h : Box w g p n) : Box w.drew g p n := ⟨h.c0, h.c1, h.f0, h.f1⟩
theorem Box.drewN (h : Box w g p n) (k : Nat) : Box (w.drewN k) g p n := ⟨h.c0, h.c1, h.f0, h.f1⟩
theorem Box.new (w : World) (t : TypeId) (p n : Int) : Box (w.alloc (.cells #[.int .i64 p, .int .i64 n] t)) w.heap.size p n :=
  ⟨by rw [World.cell?_alloc_mark]; rfl, by rw [World.cell?_alloc_mark]; rfl, by rw [World.frozen?_alloc_mark]; simp, by rw [World.frozen?_alloc_mark]; simp⟩
theorem Box.set (h : Box w g p n) (q m : Int) : Box ((w.setCell ⟨g, 0, none⟩ (.int .i64 q)).setCell ⟨g, 1, none⟩ (.int .i64 m)) g q m := by
  refine ⟨?_, ?_, ?_, ?_⟩
  · rw [World.cell?_setCell_other _ _ _ _ (by simp)]
    exact World.cell?_setCell_same _ _ _ h.c0
  · refine World.cell?_setCell_same _ _ _ (show World.cell? _ _ = some (.int .i64 n) from ?_)
    rw [World.cell?_setCell_other _ _ _ _ (by simp)]
    exact h.c1
  · rw [World.frozen?_setCell, World.frozen?_setCell]; exact h.f0
  · rw [World.frozen?_setCell, World.frozen?_setCell]; exact h.f1
theorem below_set {B : Nat} {a : World} (h : Below B a w) (hg : B ≤ g) (v u : Value) : Below B a ((w.setCell ⟨g, 0, none⟩ v).setCell ⟨g, 1, none⟩ u) := (h.setCell (p := ⟨g, 0, none⟩) hg v).setCell (p := ⟨g, 1, none⟩) hg u
end
end Go.Proofs.Ytloiomfbmabfbaa
