/-
  Words for memory that the tables' texts use: what stays, rows of one's own, lists of numbers.
-/
import Derived.Test.YtbkdlblpoohliaaM13
import Derived.Test.YtbkdlblpoohliaaC12
import Derived.Deep.AppendLies
import Derived.Deep.Onto
import Derived.Lib.AppendZeros
import Derived.Lib.SliceRun
import Derived.Deep.RegionHeld3
import Derived.Deep.DeepCutAuto
namespace Go.Proofs.Ytbkdlblpoohliaa.T13
open Go.ChangeShapes Go.WideShapes Go.ChangeAt Go.RowKit Go.Deep
set_option linter.unusedVariables false

/-- All blocks but some are as they were. -/
structure Kept (w w' : World) (O : Nat → Prop) : Prop where
  os : w'.os = w.os
  tape : w'.tape = w.tape
  output : w'.output = w.output
  size : w.heap.size ≤ w'.heap.size
  block : ∀ i, i < w.heap.size → ¬ O i → w'.heap[i]? = w.heap[i]?
/-- Some blocks, and what is new. -/
def Wid (Q : Nat → Prop) (w w' : World) : Nat → Prop := fun x => Q x ∨ (w.heap.size ≤ x ∧ x < w'.heap.size)
section
variable {w w1 w2 w3 : World} {O O' Q : Nat → Prop}
theorem Kept.refl (w : World) (O : Nat → Prop) : Kept w w O := ⟨rfl, rfl, rfl, Nat.le_refl _, fun _ _ _ => rfl⟩
theorem Kept.drew (h : Kept w w1 O) : Kept w w1.drew O := ⟨h.os, h.tape, h.output, h.size, h.block⟩
theorem Kept.drewN (h : Kept w w1 O) (n : Nat) : Kept w (w1.drewN n) O := ⟨h.os, h.tape, h.output, h.size, h.block⟩
theorem Kept.alloc (h : Kept w w1 O) (o : Obj) : Kept w (w1.alloc o) O :=
  ⟨h.os, h.tape, h.output, Nat.le_trans h.size (le_alloc _ _), fun i hi hO => (Below.heap_alloc w1 o i (Nat.lt_of_lt_of_le hi h.size)).trans (h.block i hi hO)⟩
theorem Kept.setCell (h : Kept w w1 O) {p : Addr} (hp : p.block < w.heap.size → O p.block) (u : Value) : Kept w (w1.setCell p u) O :=
  ⟨h.os, h.tape, h.output, by simpa [World.setCell] using h.size, fun i hi hO => (Below.heap_setCell w1 p u i (fun e => hO (e ▸ hp (e ▸ hi)))).trans (h.block i hi hO)⟩
theorem Kept.grown (h : Kept w w1 O) {r : Option Nat} (hg : w1.grownBy w2 r) (hr : ∀ b, r = some b → b < w.heap.size → O b) : Kept w w2 O :=
  ⟨hg.os.trans h.os, hg.tape.trans h.tape, hg.output.trans h.output, Nat.le_trans h.size hg.size, fun i hi hO => (hg.block i (Nat.lt_of_lt_of_le hi h.size) (fun e => hO (hr i e.symm hi))).trans (h.block i hi hO)⟩
theorem Kept.trans (h : Kept w w1 O) (g : Kept w1 w2 O') (hO : ∀ i, i < w.heap.size → O' i → O i) : Kept w w2 O :=
  ⟨g.os.trans h.os, g.tape.trans h.tape, g.output.trans h.output, Nat.le_trans h.size g.size, fun i hi hn => (g.block i (Nat.lt_of_lt_of_le hi h.size) (fun e => hn (hO i hi e))).trans (h.block i hi hn)⟩
theorem Kept.mono (h : Kept w w1 O) (hO : ∀ i, i < w.heap.size → O i → O' i) : Kept w w1 O' := ⟨h.os, h.tape, h.output, h.size, fun i hi hn => h.block i hi (fun e => hn (hO i hi e))⟩
theorem Kept.below (h : Kept w w1 O) {B : Nat} (hB : B ≤ w.heap.size) (hO : ∀ i, O i → B ≤ i) : Below B w w1 := ⟨h.os, h.tape, h.output, h.size, fun i hi => h.block i (by omega) (fun e => by have := hO i e; omega)⟩
theorem Kept.of_below (h : Below w.heap.size w w1) (O : Nat → Prop) : Kept w w1 O := ⟨h.os, h.tape, h.output, h.size, fun i hi _ => h.block i hi⟩
theorem Kept.cell (h : Kept w w1 O) {p : Addr} (hp : p.block < w.heap.size) (hO : ¬ O p.block) : w1.cell? p = w.cell? p := World.cell?_of_block (h.block _ hp hO)
theorem Kept.cell_some (h : Kept w w1 O) {p : Addr} {v : Value} (hv : w.cell? p = some v) (hO : ¬ O p.block) : w1.cell? p = some v := (h.cell (lt_of_cell hv) hO).trans hv
theorem Kept.wid (h : Kept w w1 Q) (g : Kept w1 w2 (Wid Q w w1)) : Kept w w2 Q := h.trans g (fun i hi hw => hw.elim id (fun e => by omega))
theorem Wid.of {x : Nat} (h : Q x) : Wid Q w w1 x := .inl h
theorem Wid.trans (h1 : w.heap.size ≤ w1.heap.size) (h2 : w1.heap.size ≤ w2.heap.size) {x : Nat} (h : Wid (Wid Q w w1) w1 w2 x) : Wid Q w w2 x := by
  rcases h with (h | h) | h
  · exact .inl h
  · exact .inr ⟨h.1, by omega⟩
  · exact .inr ⟨by omega, h.2⟩
end

/-- The block in which a list lies. -/
abbrev rowD (A : Option Addr) : Nat → Prop := fun x => ∃ ad, A = some ad ∧ ad.block = x
theorem rowD_none {x : Nat} : ¬ rowD none x := fun ⟨_, e, _⟩ => by cases e
theorem rowD_some {g x : Nat} (h : rowD (some ⟨g, 0, none⟩) x) : x = g := by obtain ⟨ad, e, rfl⟩ := h; cases e; rfl
theorem own_D {A : Option Addr} {t c x : Nat} (h : (Value.slice A t c).ownBlock = some x) : rowD A x := by
  cases A with
  | none => simp [Value.ownBlock] at h
  | some ad => simp [Value.ownBlock] at h; exact ⟨ad, rfl, h⟩
section
variable {w w' : World} {e e' : TypeId} {z z' B B' t t' c c' : Nat} {A A' : Option Addr} {xs xs' : List Value} {O : Nat → Prop}
theorem row_low (h : w.ownsRow B e z (.slice A t c) t xs) {x : Nat} (hx : rowD A x) : B ≤ x ∧ x < w.heap.size := by
  obtain ⟨ad, rfl, rfl⟩ := hx
  rcases h.2 with ⟨h, _⟩ | ⟨g, cap, cur, e1, h1, h2, _⟩
  · cases h
  · cases e1
    exact ⟨h1, (Array.getElem?_eq_some_iff.1 h2).1⟩
theorem row_cap (h : w.ownsRow B e z (.slice A t c) t xs) : t ≤ c := by
  rcases h.2 with ⟨h, h0⟩ | ⟨g, cap, cur, e1, h1, h2, h3, _⟩
  · omega
  · cases e1
    exact h3
theorem row_kept (h : w.ownsRow B e z (.slice A t c) t xs) (k : Kept w w' O) (hO : ∀ x, rowD A x → ¬ O x) : w'.ownsRow B e z (.slice A t c) t xs := by
  refine ⟨h.1, ?_⟩
  rcases h.2 with h1 | ⟨g, cap, cur, h1, h2, h3, h4⟩
  · exact .inl h1
  · refine .inr ⟨g, cap, cur, h1, h2, (k.block g (Array.getElem?_eq_some_iff.1 h3).1 (hO g ?_)).trans h3, h4⟩
    cases h1
    exact ⟨_, rfl, rfl⟩
theorem row_some (h : w.ownsRow B e z (.slice A t c) t xs) (ht : 0 < t) : ∃ g, A = some ⟨g, 0, none⟩ := by
  rcases h.2 with ⟨_, h0⟩ | ⟨g, cap, cur, e1, _⟩
  · omega
  · cases e1
    exact ⟨g, rfl⟩
/-- A block is of one kind. -/
theorem row_kind (h : w.ownsRow B e z (.slice A t c) t xs) {x : Nat} (hx : rowD A x) : ∃ cur : Array Value, w.heap[x]? = some (.cells cur e (0, 0)) := by
  obtain ⟨ad, rfl, rfl⟩ := hx
  rcases h.2 with ⟨h, _⟩ | ⟨g, cap, cur, e1, h1, h2, _⟩
  · cases h
  · cases e1
    exact ⟨cur, h2⟩
theorem row_apart (h : w.ownsRow B e z (.slice A t c) t xs) (h' : w.ownsRow B' e' z' (.slice A' t' c') t' xs') (he : e ≠ e') {x : Nat} (hx : rowD A x) : ¬ rowD A' x := fun hx' => by
  obtain ⟨cur, h1⟩ := row_kind h hx
  obtain ⟨cur', h2⟩ := row_kind h' hx'
  rw [h1] at h2
  cases h2
  exact he rfl
theorem row_off (h : w.ownsRow B e z (.slice A t c) t xs) {g : Nat} {cs : Array Value} (hg : w.heap[g]? = some (.cells cs e' (0, 0))) (he : e ≠ e') : ¬ rowD A g := fun hx => by
  obtain ⟨cur, h1⟩ := row_kind h hx
  rw [h1] at hg
  cases hg
  exact he rfl
/-- The first things of a list. -/
theorem row_take (h : w.ownsRow B e z (.slice A t c) t xs) {k : Nat} (hk : k ≤ t) (h0 : 0 < t) : w.ownsRow B e z (.slice A k c) k (xs.take (k * z)) := by
  have hz : k * z ≤ t * z := Nat.mul_le_mul_right _ hk
  rcases h.2 with ⟨_, e0⟩ | ⟨g, cap, cur, e1, h1, h2, h3, h4, h5, h6⟩
  · omega
  · cases e1
    refine ⟨by rw [List.length_take, h.1]; omega, .inr ⟨g, c, cur, rfl, h1, h2, by omega, h4, h5, ?_⟩⟩
    rw [← h6, List.take_take, Nat.min_eq_left hz]
theorem row_below (h : w.ownsRow B e z (.slice A t c) t xs) (hb : Below w.heap.size w w') : w'.ownsRow B e z (.slice A t c) t xs := row_kept h (Kept.of_below hb (fun _ => False)) (fun _ _ e => e)
end

def nats (f : List Nat) : List Value := f.map fun (i : Nat) => .int .i64 (i : Int)
def nums (f : List Int) : List Value := f.map fun i => .int .i64 i
def hds (f : List Int) : List Value := f.map fun i => .int .u64 i
theorem nats_length (f : List Nat) : (nats f).length = f.length := by simp [nats]
theorem nums_length (f : List Int) : (nums f).length = f.length := by simp [nums]
theorem hds_length (f : List Int) : (hds f).length = f.length := by simp [hds]
theorem nats_one (f : List Nat) : ∀ u ∈ nats f, u.oneCell' = true := fun u hu => by obtain ⟨p, _, rfl⟩ := List.mem_map.1 hu; rfl
theorem nums_one (f : List Int) : ∀ u ∈ nums f, u.oneCell' = true := fun u hu => by obtain ⟨p, _, rfl⟩ := List.mem_map.1 hu; rfl
theorem hds_one (f : List Int) : ∀ u ∈ hds f, u.oneCell' = true := fun u hu => by obtain ⟨p, _, rfl⟩ := List.mem_map.1 hu; rfl
theorem nats_append (a b : List Nat) : nats (a ++ b) = nats a ++ nats b := by simp [nats]
theorem nums_append (a b : List Int) : nums (a ++ b) = nums a ++ nums b := by simp [nums]
theorem hds_append (a b : List Int) : hds (a ++ b) = hds a ++ hds b := by simp [hds]
theorem nats_take (a : List Nat) (k : Nat) : nats (a.take k) = (nats a).take k := by simp [nats, List.map_take]
theorem hds_take (a : List Int) (k : Nat) : hds (a.take k) = (hds a).take k := by simp [hds, List.map_take]
theorem nats_at {f : List Nat} {j i : Nat} (h : f[j]? = some i) : (nats f)[j]? = some (.int .i64 (i : Int)) := by unfold nats; rw [List.getElem?_map, h]; rfl
theorem nums_at {f : List Int} {j : Nat} {i : Int} (h : f[j]? = some i) : (nums f)[j]? = some (.int .i64 i) := by unfold nums; rw [List.getElem?_map, h]; rfl
theorem hds_at {f : List Int} {j : Nat} {i : Int} (h : f[j]? = some i) : (hds f)[j]? = some (.int .u64 i) := by unfold hds; rw [List.getElem?_map, h]; rfl
theorem infoI : ∃ i, Try.prog.info? 3 = some i ∧ i.zero = some (.int .i64 0) ∧ i.size = 1 ∧ i.bytes = 8 := ⟨_, by rfl, by rfl, by rfl, by rfl⟩
theorem infoU : ∃ i, Try.prog.info? 31 = some i ∧ i.zero = some (.int .u64 0) ∧ i.size = 1 ∧ i.bytes = 8 := ⟨_, by rfl, by rfl, by rfl, by rfl⟩
/-- The cell of one thing that has just been laid. -/
theorem one_new (w : World) (v : Value) (e : TypeId) : ∀ j u, [v][j]? = some u → (w.alloc (.cells #[v] e)).cell? ((⟨w.heap.size, 0, none⟩ : Addr).add j) = some u := fun j u hu => by
  rw [Addr.add_lit, Nat.zero_add, World.cell?_alloc_mark]
  simpa using hu
theorem news_new (w : World) (cs : List Value) (e : TypeId) : ∀ j u, cs[j]? = some u → (w.alloc (.cells cs.toArray e)).cell? ((⟨w.heap.size, 0, none⟩ : Addr).add j) = some u := fun j u hu => by
  rw [Addr.add_lit, Nat.zero_add, World.cell?_alloc_mark]
  simpa using hu
/-- A number of the row. -/
theorem nat_cell {w : World} {B t c : Nat} {A : Option Addr} {f : List Nat} (h : w.ownsRow B 3 1 (.slice A t c) t (nats f)) {j i : Nat} (hj : f[j]? = some i) : ∃ g, A = some ⟨g, 0, none⟩ ∧ w.cell? ⟨g, j, none⟩ = some (.int .i64 (i : Int)) := by
  have hl : j < f.length := (List.getElem?_eq_some_iff.1 hj).1
  have ht : t = f.length := by have := h.1; rw [nats_length] at this; omega
  obtain ⟨g, rfl⟩ := row_some h (by omega)
  exact ⟨g, rfl, by rw [h.cellAt j (by omega)]; exact nats_at hj⟩
theorem num_cell {w : World} {B t c : Nat} {A : Option Addr} {f : List Int} (h : w.ownsRow B 3 1 (.slice A t c) t (nums f)) {j : Nat} {i : Int} (hj : f[j]? = some i) : ∃ g, A = some ⟨g, 0, none⟩ ∧ w.cell? ⟨g, j, none⟩ = some (.int .i64 i) := by
  have hl : j < f.length := (List.getElem?_eq_some_iff.1 hj).1
  have ht : t = f.length := by have := h.1; rw [nums_length] at this; omega
  obtain ⟨g, rfl⟩ := row_some h (by omega)
  exact ⟨g, rfl, by rw [h.cellAt j (by omega)]; exact nums_at hj⟩
theorem hd_cell {w : World} {B t c : Nat} {A : Option Addr} {f : List Int} (h : w.ownsRow B 31 1 (.slice A t c) t (hds f)) {j : Nat} {i : Int} (hj : f[j]? = some i) : ∃ g, A = some ⟨g, 0, none⟩ ∧ w.cell? ⟨g, j, none⟩ = some (.int .u64 i) := by
  have hl : j < f.length := (List.getElem?_eq_some_iff.1 hj).1
  have ht : t = f.length := by have := h.1; rw [hds_length] at this; omega
  obtain ⟨g, rfl⟩ := row_some h (by omega)
  exact ⟨g, rfl, by rw [h.cellAt j (by omega)]; exact hds_at hj⟩
theorem nats_len {w : World} {B e t c : Nat} {A : Option Addr} {f : List Nat} (h : w.ownsRow B e 1 (.slice A t c) t (nats f)) : t = f.length := by have := h.1; rw [nats_length] at this; omega
theorem nums_len {w : World} {B e t c : Nat} {A : Option Addr} {f : List Int} (h : w.ownsRow B e 1 (.slice A t c) t (nums f)) : t = f.length := by have := h.1; rw [nums_length] at this; omega
theorem hds_len {w : World} {B e t c : Nat} {A : Option Addr} {f : List Int} (h : w.ownsRow B e 1 (.slice A t c) t (hds f)) : t = f.length := by have := h.1; rw [hds_length] at this; omega
/-! Parts of lists. -/
theorem ielem13 : Try.prog.elem 27 = 3 := by kernel_rfl
theorem iund13 : Try.prog.underlying 27 = some (.slice (Try.prog.elem 27)) := by rw [ielem13]; exact Try.underlying27
theorem isize13 (W : World) : (Go.sizeOf 3).run Try.prog W = .ok 1 W := by
  obtain ⟨i, hi, _, h1, _⟩ := infoI
  simp [sizeOf, typeInfo, hi, h1]
theorem uelem13 : Try.prog.elem 30 = 31 := by kernel_rfl
theorem uund13 : Try.prog.underlying 30 = some (.slice (Try.prog.elem 30)) := by rw [uelem13]; exact Try.underlying30
theorem usize13 (W : World) : (Go.sizeOf 31).run Try.prog W = .ok 1 W := by
  obtain ⟨i, hi, _, h1, _⟩ := infoU
  simp [sizeOf, typeInfo, hi, h1]
theorem icut13_to (bl o n cap i : Nat) (hi : i ≤ cap) (W : World) : (Instr.slice 27 (.slice (some ⟨bl, o, none⟩) n cap) none (some (.int .i64 (i : Int))) none).run Try.prog W = .ok (.slice (some ⟨bl, o, none⟩) i cap) W := by
  rw [run_slice_h W 27 (some ⟨bl, o, none⟩) n cap iund13 .i64 i (by omega) (by omega), ielem13, isize13]
  simp only [Result.andThen_ok, sliced, Int.toNat_natCast, Nat.sub_zero, Nat.zero_mul]
  split <;> simp [add_zero']
theorem ucut13_to (bl o n cap i : Nat) (hi : i ≤ cap) (W : World) : (Instr.slice 30 (.slice (some ⟨bl, o, none⟩) n cap) none (some (.int .i64 (i : Int))) none).run Try.prog W = .ok (.slice (some ⟨bl, o, none⟩) i cap) W := by
  rw [run_slice_h W 30 (some ⟨bl, o, none⟩) n cap uund13 .i64 i (by omega) (by omega), uelem13, usize13]
  simp only [Result.andThen_ok, sliced, Int.toNat_natCast, Nat.sub_zero, Nat.zero_mul]
  split <;> simp [add_zero']
theorem ucut13_from (bl o n cap i : Nat) (hi : i ≤ n) (hn : n ≤ cap) : ∃ A', (∀ W, (Instr.slice 30 (.slice (some ⟨bl, o, none⟩) n cap) (some (.int .i64 (i : Int))) none none).run Try.prog W = .ok (.slice A' (n - i) (cap - i)) W) ∧ (i < n → A' = some ⟨bl, o + i, none⟩) := by
  refine ⟨if cap = i then some ⟨bl, o, none⟩ else (some ⟨bl, o, none⟩ : Option Addr).map (·.add (i * 1)), fun W => by rw [run_slice_l W 30 (some ⟨bl, o, none⟩) n cap uund13 .i64 i (by omega) (by omega), uelem13, usize13]; simp only [Result.andThen_ok, sliced, Int.toNat_natCast], fun h => ?_⟩
  rw [if_neg (by omega)]
  simp [Addr.add_lit]
/-- 'make([]uint64, 0, k)'. -/
theorem make_hds (k : Nat) (hk : k ≤ 1000000) (W : World) : (Instr.makeSlice 30 (.int .i64 0) (.int .i64 (k : Int))).run Try.prog W = .ok (.slice (some ⟨W.heap.size, 0, none⟩) 0 k) (W.alloc (.cells (madeCells #[.int .u64 0] k) 31)) := by
  obtain ⟨i, hi, hz, hs, hb⟩ := infoU
  have := run_make W 30 31 i _ Try.underlying30 hi hz .i64 .i64 0 (k : Int) (by omega) (by omega) (by rw [hb]; omega) (by omega)
  rw [this, hs]
  simp only [Int.toNat_natCast, Nat.mul_one]
  rfl
theorem own_hds (k : Nat) (hk : k ≤ 1000000) (B : Nat) (W : World) (hB : B ≤ W.heap.size) : (W.alloc (.cells (madeCells #[.int .u64 0] k) 31)).ownsRow B 31 1 (.slice (some ⟨W.heap.size, 0, none⟩) 0 k) 0 (hds []) :=
  World.ownsRow_made W _ k hB (by unfold maxLen; omega) (by rw [size_madeCells, Nat.mul_one])
end Go.Proofs.Ytbkdlblpoohliaa.T13
