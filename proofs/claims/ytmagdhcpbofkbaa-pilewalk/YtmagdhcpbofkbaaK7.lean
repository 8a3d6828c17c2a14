/-
  A header's bytes, put together.
-/
import Derived.Test.YtmagdhcpbofkbaaK6
import Derived.Deep.RegionHeld3
import Derived.Lib.SlBytesConst
namespace Go.Proofs.Ytmagdhcpbofkbaa
open Go.ChangeShapes Go.WideShapes Go.ChangeAt Go.RowKit
set_option linter.unusedVariables false
set_option maxRecDepth 20000

theorem bytes_two (k N : Nat) (hk : k = 1 ∨ k = 2 ∨ k = 4 ∨ k = 8) (hN : N = 2 * k) (x y : Int) (p q g : Nat) (ex : x = p) (ey : y = q) (hp : p < 18446744073709551616) (hq : q < 18446744073709551616) (w : World)
    (h0 : w.cell? ⟨g, 0, none⟩ = some (.int .u64 x)) (h1 : w.cell? ⟨g, 1, none⟩ = some (.int .u64 y)) :
    Calls Try.prog 69 #[.int .i64 k, .slice (some ⟨g, 0, none⟩) 2 2] w fun e w' => ∃ g', e = .returned (.slice (some ⟨g', 0, none⟩) N N) ∧ Lies w' (some ⟨g', 0, none⟩) (u8s (M.enc k p ++ M.enc k q)) ∧ Below w.heap.size w w' := by
  subst ex ey hN
  have h := bytes_yes k hk (some ⟨g, 0, none⟩) [p, q] 2 (by simp) (by intro n hn; simp at hn; omega) w (fun _ => ⟨_, rfl, fun j hj => by
    have hj' : j < 2 := by simpa [u64s] using hj
    have ad : ∀ j, (⟨g, 0, none⟩ : Addr).add j = ⟨g, j, none⟩ := fun j => by unfold Addr.add; split <;> simp_all
    rw [ad]
    rcases (show j = 0 ∨ j = 1 by omega) with rfl | rfl
    · exact h0
    · exact h1⟩)
  refine h.mono ?_
  rintro e w' ⟨rfl, o, b⟩
  refine ⟨_, rfl, ?_, b⟩
  have e : M.bts k [p, q] = M.enc k p ++ M.enc k q := by simp [M.bts]
  rw [← e]
  exact o.lies
theorem mark_lies (w : World) : Lies (w.alloc (.cells #[.int .u8 115, .int .u8 116, .int .u8 101, .int .u8 97, .int .u8 100, .int .u8 105, .int .u8 110, .int .u8 103] 5)) (some ⟨w.heap.size, 0, none⟩) (u8s M.mark) := (own_lit w M.mark).lies
theorem pair_cells (w : World) (x y : Value) : (w.alloc (.cells #[x, y] 28)).cell? ⟨w.heap.size, 0, none⟩ = some x ∧ (w.alloc (.cells #[x, y] 28)).cell? ⟨w.heap.size, 1, none⟩ = some y :=
  ⟨World.cell?_alloc_mark _ _ _ _ _, World.cell?_alloc_mark _ _ _ _ _⟩
theorem three_cells (w : World) (x y z : Value) : (w.alloc (.cells #[x, y, z] 22)).cell? ⟨w.heap.size, 0, none⟩ = some x ∧ (w.alloc (.cells #[x, y, z] 22)).cell? ⟨w.heap.size, 1, none⟩ = some y ∧ (w.alloc (.cells #[x, y, z] 22)).cell? ⟨w.heap.size, 2, none⟩ = some z :=
  ⟨World.cell?_alloc_mark _ _ _ _ _, World.cell?_alloc_mark _ _ _ _ _, World.cell?_alloc_mark _ _ _ _ _⟩
theorem below_new (w : World) (o : Obj) : Below w.heap.size w (w.alloc o) := (Below.refl _ _).alloc (Nat.le_refl _) _
/-- No cell that was there is another one. -/
structure Same (a b : World) : Prop where
  size : a.heap.size ≤ b.heap.size
  cell : ∀ p : Addr, p.block < a.heap.size → b.cell? p = a.cell? p
theorem Same.of {a b : World} (h : Below a.heap.size a b) : Same a b := ⟨h.size, fun _ hp => h.cell hp⟩
theorem Same.refl (a : World) : Same a a := ⟨Nat.le_refl _, fun _ _ => rfl⟩
theorem Same.trans {a b c : World} (h : Same a b) (g : Same b c) : Same a c := ⟨Nat.le_trans h.size g.size, fun p hp => (g.cell p (Nat.lt_of_lt_of_le hp h.size)).trans (h.cell p hp)⟩
theorem Same.some {a b : World} (h : Same a b) {p : Addr} {v : Value} (hv : a.cell? p = some v) : b.cell? p = some v := (h.cell p (lt_of_cell hv)).trans hv
/-- The mark of a constant's bytes: no cell is another one. -/
theorem conv_mark (W : World) (g n c : Nat) (C : Array Value) (h : W.heap[g]? = some (.cells C 5)) :
    ∃ W', (convert 22 22 (.slice (some ⟨g, 0, none⟩) n c)).run Try.prog W = .ok (.slice (some ⟨g, 0, none⟩) n c) W' ∧ Same W W' ∧ ∀ (a : World) B, Below B a W → B ≤ g → Below B a W' := by
  have hsh : W.shape? g = some (5, C.size) := by
    unfold World.shape?
    rw [h]
  have hcell : ∀ p : Addr, (W.freeze ⟨g, C.size, none⟩ 1).cell? p = W.cell? p := fun p => by
    unfold World.cell? World.freeze
    rw [if_neg (by decide)]
    simp only [Array.getElem?_modify]
    by_cases hg : g = p.block
    · rw [if_pos hg, ← hg, h]
      rfl
    · rw [if_neg hg]
  refine ⟨W.freeze ⟨g, C.size, none⟩ 1, ?_, ⟨?_, fun p _ => hcell p⟩, fun a B hb hB => ?_⟩
  · simp [convert, run_underlying Try.underlying22, run_underlying Try.underlying5, markStringish, hsh]
  · unfold World.freeze
    rw [if_neg (by decide)]
    simp
  · refine hb.trans ?_
    unfold World.freeze
    rw [if_neg (by decide)]
    exact ⟨rfl, rfl, rfl, by simp, fun k hk => by
      simp only [Array.getElem?_modify]
      rw [if_neg (by omega)]⟩
theorem at_new_block (w : World) (o : Obj) : (w.alloc o).heap[w.heap.size]? = some o := by
  show (w.heap.push o)[w.heap.size]? = _
  simp

theorem fin8 {w w1 y : World} {gf p k o n : Nat} (h1 : Below w.heap.size w w1) (h2 : Below w1.heap.size w1 y) (hz : Own y gf ((M.mark ++ (M.enc 4 p ++ M.enc 4 k)) ++ (M.enc 8 o ++ M.enc 8 n)) ∧ gf < y.heap.size ∧ w1.heap.size ≤ gf) :
    Own y gf (M.hd p k o n) ∧ Below w.heap.size w y ∧ w.heap.size ≤ gf ∧ gf < y.heap.size := by
  have e : (M.mark ++ (M.enc 4 p ++ M.enc 4 k)) ++ (M.enc 8 o ++ M.enc 8 n) = M.hd p k o n := by unfold M.hd; simp only [List.append_assoc]
  rw [← e]
  have h3 := h1.size
  exact ⟨hz.1, below_call h1 h2, by omega, hz.2.1⟩
def qo0 : Oper := { dst := some 3, op := Op.buildSlice 22 8 #[(0, Operand.const (Value.int IntKind.u8 115)), (1, Operand.const (Value.int IntKind.u8 116)), (2, Operand.const (Value.int IntKind.u8 101)), (3, Operand.const (Value.int IntKind.u8 97)), (4, Operand.const (Value.int IntKind.u8 100)), (5, Operand.const (Value.int IntKind.u8 105)), (6, Operand.const (Value.int IntKind.u8 110)), (7, Operand.const (Value.int IntKind.u8 103))], type := 22, pos := "header.go:44", after := #[], guard := none }
def qo1 : Oper := { dst := some 4, op := Op.convert 22 22 (Operand.tmp 3), type := 22, pos := "header.go:44", after := #[{ on := 0, ground := Ground.data }], guard := none }
def qo8 : Oper := { dst := some 11, op := Op.buildSlice 137 2 #[(0, Operand.tmp 7), (1, Operand.tmp 10)], type := 137, pos := "header.go:44", after := #[{ on := 4, ground := Ground.data }, { on := 7, ground := Ground.data }], guard := none }
def qo9 : Oper := { dst := some 12, op := Op.call { callee := Callee.value (Operand.func 69), args := #[Operand.const (Value.int IntKind.i64 4), Operand.tmp 11], argTypes := #[3, 137] }, type := 22, pos := "header.go:44", after := #[{ on := 8, ground := Ground.data }], guard := none }
def qo14 : Oper := { dst := some 17, op := Op.buildSlice 137 2 #[(0, Operand.tmp 14), (1, Operand.tmp 16)], type := 137, pos := "header.go:44", after := #[{ on := 11, ground := Ground.data }, { on := 13, ground := Ground.data }], guard := none }
def qo15 : Oper := { dst := some 18, op := Op.call { callee := Callee.value (Operand.func 69), args := #[Operand.const (Value.int IntKind.i64 8), Operand.tmp 17], argTypes := #[3, 137] }, type := 22, pos := "header.go:44", after := #[{ on := 14, ground := Ground.data }, { on := 9, ground := Ground.chain }], guard := none }
def qo16 : Oper := { dst := some 19, op := Op.buildSlice 136 3 #[(0, Operand.tmp 4), (1, Operand.tmp 12), (2, Operand.tmp 18)], type := 136, pos := "header.go:44", after := #[{ on := 1, ground := Ground.data }, { on := 9, ground := Ground.data }, { on := 15, ground := Ground.data }], guard := none }
def qo17 : Oper := { dst := some 20, op := Op.call { callee := Callee.value (Operand.func 68), args := #[Operand.tmp 19], argTypes := #[136] }, type := 22, pos := "header.go:44", after := #[{ on := 16, ground := Ground.data }, { on := 15, ground := Ground.chain }], guard := none }
def qo18 : Oper := { dst := some 2, op := Op.assign (Operand.tmp 20), type := 22, pos := "header.go:44", after := #[{ on := 17, ground := Ground.data }, { on := 17, ground := Ground.chain }, { on := 0, ground := Ground.phase }, { on := 1, ground := Ground.phase }, { on := 2, ground := Ground.phase }, { on := 3, ground := Ground.phase }, { on := 4, ground := Ground.phase }, { on := 5, ground := Ground.phase }, { on := 6, ground := Ground.phase }, { on := 7, ground := Ground.phase }, { on := 8, ground := Ground.phase }, { on := 9, ground := Ground.phase }, { on := 10, ground := Ground.phase }, { on := 11, ground := Ground.phase }, { on := 12, ground := Ground.phase }, { on := 13, ground := Ground.phase }, { on := 14, ground := Ground.phase }, { on := 15, ground := Ground.phase }, { on := 16, ground := Ground.phase }, { on := 17, ground := Ground.phase }], guard := none }
theorem join8 (p k o n : Nat) (w : World) (gp gb g0 g9 g15 : Nat) (hgb : gb = w.heap.size) (hp : w.cell? ⟨gp, 0, none⟩ = some (.slice (some ⟨g0, 0, none⟩) 8 8) ∧ w.cell? ⟨gp, 1, none⟩ = some (.slice (some ⟨g9, 0, none⟩) 8 8) ∧ w.cell? ⟨gp, 2, none⟩ = some (.slice (some ⟨g15, 0, none⟩) 16 16))
    (h1 : Lies w (some ⟨g0, 0, none⟩) (u8s M.mark)) (h2 : Lies w (some ⟨g9, 0, none⟩) (u8s (M.enc 4 p ++ M.enc 4 k))) (h3 : Lies w (some ⟨g15, 0, none⟩) (u8s (M.enc 8 o ++ M.enc 8 n))) :
    Calls Try.prog 68 #[.slice (some ⟨gp, 0, none⟩) 3 3] w fun e w' => e = .returned (.slice (some ⟨gb, 0, none⟩) 32 32) ∧ Own w' gb ((M.mark ++ (M.enc 4 p ++ M.enc 4 k)) ++ (M.enc 8 o ++ M.enc 8 n)) ∧ Below w.heap.size w w' ∧ gb < w'.heap.size :=
  join_any w gp gb _ _ _ 8 8 16 M.mark _ _ hgb rfl (by rw [List.length_append, M.enc_length, M.enc_length]) (by rw [List.length_append, M.enc_length, M.enc_length]) hp.1 hp.2.1 hp.2.2 h1 h2 h3
set_option maxHeartbeats 40000000 in
theorem hbytes_int (x y : Int) (p k o n : Nat) (ex : x = p) (ey : y = k) (hp : p < 4294967296) (hk : k < 4294967296) (ho : o < 18446744073709551616) (hn : n < 18446744073709551616) (w : World) :
    Calls Try.prog 53 #[hv x y o n] w fun e w' => ∃ g, e = .returned (.slice (some ⟨g, 0, none⟩) 32 32) ∧ Own w' g (M.hd p k o n) ∧ Below w.heap.size w w' ∧ w.heap.size ≤ g ∧ g < w'.heap.size := by
  have hwx : IntKind.u64.wrap x = x := by rw [wrapU]; omega
  have hwy : IntKind.u64.wrap y = y := by rw [wrapU]; omega
  have HX := Lib.hid (And.intro ex (And.intro ey (And.intro hp (And.intro hk (And.intro ho hn)))))
  clear ex ey hp hk ho hn
  have c0 := World.cell?_alloc_mark w #[.int .i64 x, .int .i64 y, .int .u64 (o : Int), .int .u64 (n : Int)] 41 (0, 0) 0
  have c1 := World.cell?_alloc_mark w #[.int .i64 x, .int .i64 y, .int .u64 (o : Int), .int .u64 (n : Int)] 41 (0, 0) 1
  have c2 := World.cell?_alloc_mark w #[.int .i64 x, .int .i64 y, .int .u64 (o : Int), .int .u64 (n : Int)] 41 (0, 0) 2
  have c3 := World.cell?_alloc_mark w #[.int .i64 x, .int .i64 y, .int .u64 (o : Int), .int .u64 (n : Int)] 41 (0, 0) 3
  have B00 := Lib.hid (below_new w (.cells #[.int .i64 x, .int .i64 y, .int .u64 (o : Int), .int .u64 (n : Int)] 41))
  go_enter Try.func53, Try.ntmps53
  go_wp2_with fail
  generalize w.alloc (.cells #[.int .i64 x, .int .i64 y, .int .u64 (o : Int), .int .u64 (n : Int)] 41) = w1 at *
  obtain ⟨b0, hb0⟩ : ∃ b0, b0 = w.heap.size := ⟨_, rfl⟩
  have BB := Lib.hid (show Below w.heap.size w w1 ∧ b0 = w.heap.size from ⟨B00.out, hb0⟩)
  rw [← hb0] at c0 c1 c2 c3 ⊢
  have c0 : w1.cell? ⟨b0, 0, none⟩ = some (.int .i64 x) := c0
  have c1 : w1.cell? ⟨b0, 1, none⟩ = some (.int .i64 y) := c1
  have c2 : w1.cell? ⟨b0, 2, none⟩ = some (.int .u64 (o : Int)) := c2
  have c3 : w1.cell? ⟨b0, 3, none⟩ = some (.int .u64 (n : Int)) := c3
  have HC := Lib.hid (show ∀ W, Below w1.heap.size w1 W → W.cell? ⟨b0, 0, none⟩ = some (.int .i64 x) ∧ W.cell? ⟨b0, 1, none⟩ = some (.int .i64 y) ∧ W.cell? ⟨b0, 2, none⟩ = some (.int .u64 (o : Int)) ∧ W.cell? ⟨b0, 3, none⟩ = some (.int .u64 (n : Int)) from
    fun W hW => ⟨(hW.cell (lt_of_cell c0)).trans c0, (hW.cell (lt_of_cell c1)).trans c1, (hW.cell (lt_of_cell c2)).trans c2, (hW.cell (lt_of_cell c3)).trans c3⟩)
  have B0 := Lib.hid ((Below.refl w1.heap.size w1).drew)
  obtain ⟨y0, hy0⟩ : ∃ y0, y0 = w1.drew := ⟨_, rfl⟩
  rw [← hy0] at B0
  clear c0 c1 c2 c3 B00 hb0
  refine wp_region_noPanic ?_
  refine wp_region_held_drew (S := fun W => W.cell? ⟨b0, 0, none⟩ = some (.int .i64 x) ∧ W.cell? ⟨b0, 1, none⟩ = some (.int .i64 y) ∧ W.cell? ⟨b0, 2, none⟩ = some (.int .u64 (o : Int)) ∧ W.cell? ⟨b0, 3, none⟩ = some (.int .u64 (n : Int))) (by kernel_rfl) (by have h := HC.out _ B0.out; rw [hy0] at h; exact h) (fun hHeld => ?_)
  rw [← hy0] at hHeld ⊢
  clear hy0
  refine wpAnyH_take (i := 2) (oi := ({ dst := some 5, op := Op.fieldAddr 41 (Operand.tmp 1) 0, type := 0, pos := "header.go:44", after := #[], guard := none } : Oper)) (v := ?_) rfl (by kernel_rfl) (by kernel_rfl) (by kernel_rfl) (fun _ _ _ h => h) (Or.inl ⟨by rfl, ?_⟩) (by assumption) ?_
  rotate_left
  ·(intro w hSw; (try dsimp only at hSw); go_simp) <;> with_reducible rfl
  (try simp only [Act.put, List.setIfInBounds_toArray, List.set_cons_zero, List.set_cons_succ])
  refine wpAnyH_take (i := 3) (oi := ({ dst := some 6, op := Op.load 3 (Operand.tmp 5), type := 3, pos := "header.go:44", after := #[{ on := 2, ground := Ground.data }], guard := none } : Oper)) (v := ?_) rfl (by kernel_rfl) (by kernel_rfl) (by kernel_rfl) (fun _ _ _ h => h) (Or.inl ⟨by rfl, ?_⟩) (by assumption) ?_
  rotate_left
  ·(intro w hSw; (try dsimp only at hSw); go_simp) <;> with_reducible rfl
  (try simp only [Act.put, List.setIfInBounds_toArray, List.set_cons_zero, List.set_cons_succ])
  refine wpAnyH_take (i := 4) (oi := ({ dst := some 7, op := Op.convert 3 28 (Operand.tmp 6), type := 28, pos := "header.go:44", after := #[{ on := 3, ground := Ground.data }], guard := none } : Oper)) (v := ?_) rfl (by kernel_rfl) (by kernel_rfl) (by kernel_rfl) (fun _ _ _ h => h) (Or.inl ⟨by rfl, ?_⟩) (by assumption) ?_
  rotate_left
  ·(intro w hSw; (try dsimp only at hSw); go_simp) <;> with_reducible rfl
  (try simp only [Act.put, List.setIfInBounds_toArray, List.set_cons_zero, List.set_cons_succ])
  refine wpAnyH_take (i := 5) (oi := ({ dst := some 8, op := Op.fieldAddr 41 (Operand.tmp 1) 1, type := 0, pos := "header.go:44", after := #[], guard := none } : Oper)) (v := ?_) rfl (by kernel_rfl) (by kernel_rfl) (by kernel_rfl) (fun _ _ _ h => h) (Or.inl ⟨by rfl, ?_⟩) (by assumption) ?_
  rotate_left
  ·(intro w hSw; (try dsimp only at hSw); go_simp) <;> with_reducible rfl
  (try simp only [Act.put, List.setIfInBounds_toArray, List.set_cons_zero, List.set_cons_succ])
  refine wpAnyH_take (i := 6) (oi := ({ dst := some 9, op := Op.load 3 (Operand.tmp 8), type := 3, pos := "header.go:44", after := #[{ on := 5, ground := Ground.data }], guard := none } : Oper)) (v := ?_) rfl (by kernel_rfl) (by kernel_rfl) (by kernel_rfl) (fun _ _ _ h => h) (Or.inl ⟨by rfl, ?_⟩) (by assumption) ?_
  rotate_left
  ·(intro w hSw; (try dsimp only at hSw); go_simp) <;> with_reducible rfl
  (try simp only [Act.put, List.setIfInBounds_toArray, List.set_cons_zero, List.set_cons_succ])
  refine wpAnyH_take (i := 7) (oi := ({ dst := some 10, op := Op.convert 3 28 (Operand.tmp 9), type := 28, pos := "header.go:44", after := #[{ on := 6, ground := Ground.data }], guard := none } : Oper)) (v := ?_) rfl (by kernel_rfl) (by kernel_rfl) (by kernel_rfl) (fun _ _ _ h => h) (Or.inl ⟨by rfl, ?_⟩) (by assumption) ?_
  rotate_left
  ·(intro w hSw; (try dsimp only at hSw); go_simp) <;> with_reducible rfl
  (try simp only [Act.put, List.setIfInBounds_toArray, List.set_cons_zero, List.set_cons_succ])
  refine wpAnyH_take (i := 10) (oi := ({ dst := some 13, op := Op.fieldAddr 41 (Operand.tmp 1) 2, type := 0, pos := "header.go:44", after := #[], guard := none } : Oper)) (v := ?_) rfl (by kernel_rfl) (by kernel_rfl) (by kernel_rfl) (fun _ _ _ h => h) (Or.inl ⟨by rfl, ?_⟩) (by assumption) ?_
  rotate_left
  ·(intro w hSw; (try dsimp only at hSw); go_simp) <;> with_reducible rfl
  (try simp only [Act.put, List.setIfInBounds_toArray, List.set_cons_zero, List.set_cons_succ])
  refine wpAnyH_take (i := 11) (oi := ({ dst := some 14, op := Op.load 28 (Operand.tmp 13), type := 28, pos := "header.go:44", after := #[{ on := 10, ground := Ground.data }], guard := none } : Oper)) (v := ?_) rfl (by kernel_rfl) (by kernel_rfl) (by kernel_rfl) (fun _ _ _ h => h) (Or.inl ⟨by rfl, ?_⟩) (by assumption) ?_
  rotate_left
  ·(intro w hSw; (try dsimp only at hSw); go_simp) <;> with_reducible rfl
  (try simp only [Act.put, List.setIfInBounds_toArray, List.set_cons_zero, List.set_cons_succ])
  refine wpAnyH_take (i := 12) (oi := ({ dst := some 15, op := Op.fieldAddr 41 (Operand.tmp 1) 3, type := 0, pos := "header.go:44", after := #[], guard := none } : Oper)) (v := ?_) rfl (by kernel_rfl) (by kernel_rfl) (by kernel_rfl) (fun _ _ _ h => h) (Or.inl ⟨by rfl, ?_⟩) (by assumption) ?_
  rotate_left
  ·(intro w hSw; (try dsimp only at hSw); go_simp) <;> with_reducible rfl
  (try simp only [Act.put, List.setIfInBounds_toArray, List.set_cons_zero, List.set_cons_succ])
  refine wpAnyH_take (i := 13) (oi := ({ dst := some 16, op := Op.load 28 (Operand.tmp 15), type := 28, pos := "header.go:44", after := #[{ on := 12, ground := Ground.data }], guard := none } : Oper)) (v := ?_) rfl (by kernel_rfl) (by kernel_rfl) (by kernel_rfl) (fun _ _ _ h => h) (Or.inl ⟨by rfl, ?_⟩) (by assumption) ?_
  rotate_left
  ·(intro w hSw; (try dsimp only at hSw); go_simp) <;> with_reducible rfl
  (try simp only [Act.put, List.setIfInBounds_toArray, List.set_cons_zero, List.set_cons_succ])
  refine wpAnyH_ready (rs := [0, 8, 14]) (by kernel_rfl) (by simp) ?_
  refine AllReadyH.cons (o := qo0) rfl (fun K hK => ?_) ?_
  ·unfold qo0; go_simp
   obtain ⟨y1, hy1⟩ : ∃ z, z = y0.alloc (.cells #[.int .u8 115, .int .u8 116, .int .u8 101, .int .u8 97, .int .u8 100, .int .u8 105, .int .u8 110, .int .u8 103] 5) := ⟨_, rfl⟩
   obtain ⟨g0, hg0⟩ : ∃ z, z = y0.heap.size := ⟨_, rfl⟩
   have D1 := Lib.hid (show Below y0.heap.size y0 y1 from by rw [hy1]; exact below_new _ _)
   have B1 := Lib.hid (below_call B0.out D1.out)
   have S1 := Lib.hid (Same.of D1.out)
   have L0 := Lib.hid (show Lies y1 (some ⟨g0, 0, none⟩) (u8s M.mark) from by rw [hy1, hg0]; exact mark_lies _)
   have K0 := Lib.hid (show y1.heap[g0]? = some (.cells #[.int .u8 115, .int .u8 116, .int .u8 101, .int .u8 97, .int .u8 100, .int .u8 105, .int .u8 110, .int .u8 103] 5) from by rw [hy1, hg0]; exact at_new_block _ _)
   have K0s := Lib.hid (show g0 < y1.heap.size ∧ w1.heap.size ≤ g0 from ⟨by rw [hy1, hg0]; simp, by rw [hg0]; exact B0.out.size⟩)
   rw [← hg0, ← hy1]
   clear hy1 hg0
   refine hK.out _ _ ?_ (fun hHeld => ?_)
   ·exact HC.out _ B1.out
   clear hK K
   (try simp only [Act.put, List.setIfInBounds_toArray, List.set_cons_zero, List.set_cons_succ])
   refine wpAnyH_ready (rs := [1, 8, 14]) (by kernel_rfl) (by simp) ?_
   refine AllReadyH.cons (o := qo1) rfl (fun K hK => ?_) ?_
   ·unfold qo1
    obtain ⟨y2, hcv, s2, t2⟩ := conv_mark y1 g0 8 8 _ K0.out
    have S2 := Lib.hid s2
    have B2 := Lib.hid (t2 _ _ B1.out K0s.out.2)
    clear s2 t2
    go_simp
    clear hcv
    refine hK.out _ _ ?_ (fun hHeld => ?_)
    ·exact HC.out _ B2.out
    clear hK K
    (try simp only [Act.put, List.setIfInBounds_toArray, List.set_cons_zero, List.set_cons_succ])
    refine wpAnyH_ready (rs := [8, 14]) (by kernel_rfl) (by simp) ?_
    refine AllReadyH.cons (o := qo8) rfl (fun K hK => ?_) ?_
    ·unfold qo8; go_simp
     obtain ⟨y3, hy3⟩ : ∃ z, z = y2.alloc (.cells #[.int .u64 x, .int .u64 y] 28) := ⟨_, rfl⟩
     obtain ⟨g8, hg8⟩ : ∃ z, z = y2.heap.size := ⟨_, rfl⟩
     have D3 := Lib.hid (show Below y2.heap.size y2 y3 from by rw [hy3]; exact below_new _ _)
     have B3 := Lib.hid (below_call B2.out D3.out)
     have S3 := Lib.hid (Same.of D3.out)
     have P8 := Lib.hid (show y3.cell? ⟨g8, 0, none⟩ = _ ∧ y3.cell? ⟨g8, 1, none⟩ = _ from by rw [hy3, hg8]; exact pair_cells _ _ _)
     rw [← hg8, ← hy3]
     clear hy3 hg8
     refine hK.out _ _ ?_ (fun hHeld => ?_)
     ·exact HC.out _ B3.out
     clear hK K
     (try simp only [Act.put, List.setIfInBounds_toArray, List.set_cons_zero, List.set_cons_succ])
     refine wpAnyH_ready (rs := [9, 14]) (by kernel_rfl) (by simp) ?_
     refine AllReadyH.cons (o := qo9) rfl (fun K hK => ?_) ?_
     ·unfold qo9; go_simp
      refine (bytes_two 4 8 (by omega) rfl x y p k g8 HX.out.1 HX.out.2.1 (by have := HX.out; omega) (by have := HX.out; omega) _ ((Same.refl _).some P8.out.1) ((Same.refl _).some P8.out.2)).mono ?_
      rintro e y4 ⟨g9, rfl, l9, b4⟩
      have L9 := Lib.hid l9
      have D4 := Lib.hid b4
      have B4 := Lib.hid (below_call B3.out b4)
      have S4 := Lib.hid (Same.of b4)
      clear l9 b4
      go_wp2_with fail
      refine hK.out _ _ ?_ (fun hHeld => ?_)
      ·exact HC.out _ B4.out
      clear hK K
      (try simp only [Act.put, List.setIfInBounds_toArray, List.set_cons_zero, List.set_cons_succ])
      refine wpAnyH_ready (rs := [14]) (by kernel_rfl) (by simp) ?_
      refine AllReadyH.cons (o := qo14) rfl (fun K hK => ?_) ?_
      ·unfold qo14; go_simp
       obtain ⟨y5, hy5⟩ : ∃ z, z = y4.alloc (.cells #[.int .u64 (o : Int), .int .u64 (n : Int)] 28) := ⟨_, rfl⟩
       obtain ⟨g14, hg14⟩ : ∃ z, z = y4.heap.size := ⟨_, rfl⟩
       have D5 := Lib.hid (show Below y4.heap.size y4 y5 from by rw [hy5]; exact below_new _ _)
       have B5 := Lib.hid (below_call B4.out D5.out)
       have S5 := Lib.hid (Same.of D5.out)
       have P14 := Lib.hid (show y5.cell? ⟨g14, 0, none⟩ = _ ∧ y5.cell? ⟨g14, 1, none⟩ = _ from by rw [hy5, hg14]; exact pair_cells _ _ _)
       rw [← hg14, ← hy5]
       clear hy5 hg14
       refine hK.out _ _ ?_ (fun hHeld => ?_)
       ·exact HC.out _ B5.out
       clear hK K
       (try simp only [Act.put, List.setIfInBounds_toArray, List.set_cons_zero, List.set_cons_succ])
       refine wpAnyH_ready (rs := [15]) (by kernel_rfl) (by simp) ?_
       refine AllReadyH.cons (o := qo15) rfl (fun K hK => ?_) ?_
       ·unfold qo15; go_simp
        refine (bytes_two 8 16 (by omega) rfl (o : Int) (n : Int) o n g14 rfl rfl HX.out.2.2.2.2.1 HX.out.2.2.2.2.2 _ ((Same.refl _).some P14.out.1) ((Same.refl _).some P14.out.2)).mono ?_
        rintro e y6 ⟨g15, rfl, l15, b6⟩
        have L15 := Lib.hid l15
        have D6 := Lib.hid b6
        have B6 := Lib.hid (below_call B5.out b6)
        have S6 := Lib.hid (Same.of b6)
        clear l15 b6
        go_wp2_with fail
        refine hK.out _ _ ?_ (fun hHeld => ?_)
        ·exact HC.out _ B6.out
        clear hK K
        (try simp only [Act.put, List.setIfInBounds_toArray, List.set_cons_zero, List.set_cons_succ])
        refine wpAnyH_ready (rs := [16]) (by kernel_rfl) (by simp) ?_
        refine AllReadyH.cons (o := qo16) rfl (fun K hK => ?_) ?_
        ·unfold qo16; go_simp
         obtain ⟨y7, hy7⟩ : ∃ z, z = y6.alloc (.cells #[.slice (some ⟨g0, 0, none⟩) 8 8, .slice (some ⟨g9, 0, none⟩) 8 8, .slice (some ⟨g15, 0, none⟩) 16 16] 22) := ⟨_, rfl⟩
         obtain ⟨g16, hg16⟩ : ∃ z, z = y6.heap.size := ⟨_, rfl⟩
         have D7 := Lib.hid (show Below y6.heap.size y6 y7 from by rw [hy7]; exact below_new _ _)
         have B7 := Lib.hid (below_call B6.out D7.out)
         have S7 := Lib.hid (Same.of D7.out)
         have P16 := Lib.hid (show y7.cell? ⟨g16, 0, none⟩ = _ ∧ y7.cell? ⟨g16, 1, none⟩ = _ ∧ y7.cell? ⟨g16, 2, none⟩ = _ from by rw [hy7, hg16]; exact three_cells _ _ _ _)
         rw [← hg16, ← hy7]
         clear hy7 hg16
         refine hK.out _ _ ?_ (fun hHeld => ?_)
         ·exact HC.out _ B7.out
         clear hK K
         (try simp only [Act.put, List.setIfInBounds_toArray, List.set_cons_zero, List.set_cons_succ])
         refine wpAnyH_ready (rs := [17]) (by kernel_rfl) (by simp) ?_
         refine AllReadyH.cons (o := qo17) rfl (fun K hK => ?_) ?_
         ·unfold qo17; go_simp
          refine (join8 p k o n _ g16 y7.heap.size g0 g9 g15 rfl P16.out (L0.out.keep (((((S2.out.trans S3.out).trans S4.out).trans S5.out).trans S6.out).trans S7.out).cell) (L9.out.keep ((S5.out.trans S6.out).trans S7.out).cell) (L15.out.keep S7.out.cell)).mono ?_
          rintro e y8 ⟨rfl, o8, b8, z8⟩
          have B8 := Lib.hid (below_call B7.out b8)
          have Z := Lib.hid (show _ ∧ _ ∧ w1.heap.size ≤ y7.heap.size from And.intro o8 (And.intro z8 B7.out.size))
          clear o8 z8 b8
          generalize y7.heap.size = gf at *
          go_wp2_with fail
          refine hK.out _ _ ?_ (fun hHeld => ?_)
          ·exact HC.out _ B8.out
          clear hK K
          (try simp only [Act.put, List.setIfInBounds_toArray, List.set_cons_zero, List.set_cons_succ])
          refine wpAnyH_take (i := 18) (oi := qo18) (v := ?_) rfl (by kernel_rfl) (by kernel_rfl) (by kernel_rfl) (fun _ _ _ h => h) (Or.inl ⟨by rfl, ?_⟩) (by assumption) ?_
          rotate_left
          ·(intro w hSw; (try dsimp only at hSw); unfold qo18; go_simp) <;> with_reducible rfl
          unfold qo18; (try simp only [Act.put, List.setIfInBounds_toArray, List.set_cons_zero, List.set_cons_succ])
          refine wpAnyH_done (by kernel_rfl) ?_ _
          refine NoPanic.normal ?_
          go_wp2_with fail
          go_ret
          exact ⟨gf, rfl, fin8 BB.out.1 B8.out Z.out⟩
         exact AllReadyH.nil
        exact AllReadyH.nil
       exact AllReadyH.nil
      exact AllReadyH.nil
     refine AllReadyH.cons (o := qo14) rfl (fun K hK => ?_) ?_
     ·unfold qo14; go_simp
      obtain ⟨y4, hy4⟩ : ∃ z, z = y3.alloc (.cells #[.int .u64 (o : Int), .int .u64 (n : Int)] 28) := ⟨_, rfl⟩
      obtain ⟨g14, hg14⟩ : ∃ z, z = y3.heap.size := ⟨_, rfl⟩
      have D4 := Lib.hid (show Below y3.heap.size y3 y4 from by rw [hy4]; exact below_new _ _)
      have B4 := Lib.hid (below_call B3.out D4.out)
      have S4 := Lib.hid (Same.of D4.out)
      have P14 := Lib.hid (show y4.cell? ⟨g14, 0, none⟩ = _ ∧ y4.cell? ⟨g14, 1, none⟩ = _ from by rw [hy4, hg14]; exact pair_cells _ _ _)
      rw [← hg14, ← hy4]
      clear hy4 hg14
      refine hK.out _ _ ?_ (fun hHeld => ?_)
      ·exact HC.out _ B4.out
      clear hK K
      (try simp only [Act.put, List.setIfInBounds_toArray, List.set_cons_zero, List.set_cons_succ])
      refine wpAnyH_ready (rs := [9]) (by kernel_rfl) (by simp) ?_
      refine AllReadyH.cons (o := qo9) rfl (fun K hK => ?_) ?_
      ·unfold qo9; go_simp
       refine (bytes_two 4 8 (by omega) rfl x y p k g8 HX.out.1 HX.out.2.1 (by have := HX.out; omega) (by have := HX.out; omega) _ (S4.out.some P8.out.1) (S4.out.some P8.out.2)).mono ?_
       rintro e y5 ⟨g9, rfl, l9, b5⟩
       have L9 := Lib.hid l9
       have D5 := Lib.hid b5
       have B5 := Lib.hid (below_call B4.out b5)
       have S5 := Lib.hid (Same.of b5)
       clear l9 b5
       go_wp2_with fail
       refine hK.out _ _ ?_ (fun hHeld => ?_)
       ·exact HC.out _ B5.out
       clear hK K
       (try simp only [Act.put, List.setIfInBounds_toArray, List.set_cons_zero, List.set_cons_succ])
       refine wpAnyH_ready (rs := [15]) (by kernel_rfl) (by simp) ?_
       refine AllReadyH.cons (o := qo15) rfl (fun K hK => ?_) ?_
       ·unfold qo15; go_simp
        refine (bytes_two 8 16 (by omega) rfl (o : Int) (n : Int) o n g14 rfl rfl HX.out.2.2.2.2.1 HX.out.2.2.2.2.2 _ (S5.out.some P14.out.1) (S5.out.some P14.out.2)).mono ?_
        rintro e y6 ⟨g15, rfl, l15, b6⟩
        have L15 := Lib.hid l15
        have D6 := Lib.hid b6
        have B6 := Lib.hid (below_call B5.out b6)
        have S6 := Lib.hid (Same.of b6)
        clear l15 b6
        go_wp2_with fail
        refine hK.out _ _ ?_ (fun hHeld => ?_)
        ·exact HC.out _ B6.out
        clear hK K
        (try simp only [Act.put, List.setIfInBounds_toArray, List.set_cons_zero, List.set_cons_succ])
        refine wpAnyH_ready (rs := [16]) (by kernel_rfl) (by simp) ?_
        refine AllReadyH.cons (o := qo16) rfl (fun K hK => ?_) ?_
        ·unfold qo16; go_simp
         obtain ⟨y7, hy7⟩ : ∃ z, z = y6.alloc (.cells #[.slice (some ⟨g0, 0, none⟩) 8 8, .slice (some ⟨g9, 0, none⟩) 8 8, .slice (some ⟨g15, 0, none⟩) 16 16] 22) := ⟨_, rfl⟩
         obtain ⟨g16, hg16⟩ : ∃ z, z = y6.heap.size := ⟨_, rfl⟩
         have D7 := Lib.hid (show Below y6.heap.size y6 y7 from by rw [hy7]; exact below_new _ _)
         have B7 := Lib.hid (below_call B6.out D7.out)
         have S7 := Lib.hid (Same.of D7.out)
         have P16 := Lib.hid (show y7.cell? ⟨g16, 0, none⟩ = _ ∧ y7.cell? ⟨g16, 1, none⟩ = _ ∧ y7.cell? ⟨g16, 2, none⟩ = _ from by rw [hy7, hg16]; exact three_cells _ _ _ _)
         rw [← hg16, ← hy7]
         clear hy7 hg16
         refine hK.out _ _ ?_ (fun hHeld => ?_)
         ·exact HC.out _ B7.out
         clear hK K
         (try simp only [Act.put, List.setIfInBounds_toArray, List.set_cons_zero, List.set_cons_succ])
         refine wpAnyH_ready (rs := [17]) (by kernel_rfl) (by simp) ?_
         refine AllReadyH.cons (o := qo17) rfl (fun K hK => ?_) ?_
         ·unfold qo17; go_simp
          refine (join8 p k o n _ g16 y7.heap.size g0 g9 g15 rfl P16.out (L0.out.keep (((((S2.out.trans S3.out).trans S4.out).trans S5.out).trans S6.out).trans S7.out).cell) (L9.out.keep (S6.out.trans S7.out).cell) (L15.out.keep S7.out.cell)).mono ?_
          rintro e y8 ⟨rfl, o8, b8, z8⟩
          have B8 := Lib.hid (below_call B7.out b8)
          have Z := Lib.hid (show _ ∧ _ ∧ w1.heap.size ≤ y7.heap.size from And.intro o8 (And.intro z8 B7.out.size))
          clear o8 z8 b8
          generalize y7.heap.size = gf at *
          go_wp2_with fail
          refine hK.out _ _ ?_ (fun hHeld => ?_)
          ·exact HC.out _ B8.out
          clear hK K
          (try simp only [Act.put, List.setIfInBounds_toArray, List.set_cons_zero, List.set_cons_succ])
          refine wpAnyH_take (i := 18) (oi := qo18) (v := ?_) rfl (by kernel_rfl) (by kernel_rfl) (by kernel_rfl) (fun _ _ _ h => h) (Or.inl ⟨by rfl, ?_⟩) (by assumption) ?_
          rotate_left
          ·(intro w hSw; (try dsimp only at hSw); unfold qo18; go_simp) <;> with_reducible rfl
          unfold qo18; (try simp only [Act.put, List.setIfInBounds_toArray, List.set_cons_zero, List.set_cons_succ])
          refine wpAnyH_done (by kernel_rfl) ?_ _
          refine NoPanic.normal ?_
          go_wp2_with fail
          go_ret
          exact ⟨gf, rfl, fin8 BB.out.1 B8.out Z.out⟩
         exact AllReadyH.nil
        exact AllReadyH.nil
       exact AllReadyH.nil
      exact AllReadyH.nil
     exact AllReadyH.nil
    refine AllReadyH.cons (o := qo14) rfl (fun K hK => ?_) ?_
    ·unfold qo14; go_simp
     obtain ⟨y3, hy3⟩ : ∃ z, z = y2.alloc (.cells #[.int .u64 (o : Int), .int .u64 (n : Int)] 28) := ⟨_, rfl⟩
     obtain ⟨g14, hg14⟩ : ∃ z, z = y2.heap.size := ⟨_, rfl⟩
     have D3 := Lib.hid (show Below y2.heap.size y2 y3 from by rw [hy3]; exact below_new _ _)
     have B3 := Lib.hid (below_call B2.out D3.out)
     have S3 := Lib.hid (Same.of D3.out)
     have P14 := Lib.hid (show y3.cell? ⟨g14, 0, none⟩ = _ ∧ y3.cell? ⟨g14, 1, none⟩ = _ from by rw [hy3, hg14]; exact pair_cells _ _ _)
     rw [← hg14, ← hy3]
     clear hy3 hg14
     refine hK.out _ _ ?_ (fun hHeld => ?_)
     ·exact HC.out _ B3.out
     clear hK K
     (try simp only [Act.put, List.setIfInBounds_toArray, List.set_cons_zero, List.set_cons_succ])
     refine wpAnyH_ready (rs := [8]) (by kernel_rfl) (by simp) ?_
     refine AllReadyH.cons (o := qo8) rfl (fun K hK => ?_) ?_
     ·unfold qo8; go_simp
      obtain ⟨y4, hy4⟩ : ∃ z, z = y3.alloc (.cells #[.int .u64 x, .int .u64 y] 28) := ⟨_, rfl⟩
      obtain ⟨g8, hg8⟩ : ∃ z, z = y3.heap.size := ⟨_, rfl⟩
      have D4 := Lib.hid (show Below y3.heap.size y3 y4 from by rw [hy4]; exact below_new _ _)
      have B4 := Lib.hid (below_call B3.out D4.out)
      have S4 := Lib.hid (Same.of D4.out)
      have P8 := Lib.hid (show y4.cell? ⟨g8, 0, none⟩ = _ ∧ y4.cell? ⟨g8, 1, none⟩ = _ from by rw [hy4, hg8]; exact pair_cells _ _ _)
      rw [← hg8, ← hy4]
      clear hy4 hg8
      refine hK.out _ _ ?_ (fun hHeld => ?_)
      ·exact HC.out _ B4.out
      clear hK K
      (try simp only [Act.put, List.setIfInBounds_toArray, List.set_cons_zero, List.set_cons_succ])
      refine wpAnyH_ready (rs := [9]) (by kernel_rfl) (by simp) ?_
      refine AllReadyH.cons (o := qo9) rfl (fun K hK => ?_) ?_
      ·unfold qo9; go_simp
       refine (bytes_two 4 8 (by omega) rfl x y p k g8 HX.out.1 HX.out.2.1 (by have := HX.out; omega) (by have := HX.out; omega) _ ((Same.refl _).some P8.out.1) ((Same.refl _).some P8.out.2)).mono ?_
       rintro e y5 ⟨g9, rfl, l9, b5⟩
       have L9 := Lib.hid l9
       have D5 := Lib.hid b5
       have B5 := Lib.hid (below_call B4.out b5)
       have S5 := Lib.hid (Same.of b5)
       clear l9 b5
       go_wp2_with fail
       refine hK.out _ _ ?_ (fun hHeld => ?_)
       ·exact HC.out _ B5.out
       clear hK K
       (try simp only [Act.put, List.setIfInBounds_toArray, List.set_cons_zero, List.set_cons_succ])
       refine wpAnyH_ready (rs := [15]) (by kernel_rfl) (by simp) ?_
       refine AllReadyH.cons (o := qo15) rfl (fun K hK => ?_) ?_
       ·unfold qo15; go_simp
        refine (bytes_two 8 16 (by omega) rfl (o : Int) (n : Int) o n g14 rfl rfl HX.out.2.2.2.2.1 HX.out.2.2.2.2.2 _ ((S4.out.trans S5.out).some P14.out.1) ((S4.out.trans S5.out).some P14.out.2)).mono ?_
        rintro e y6 ⟨g15, rfl, l15, b6⟩
        have L15 := Lib.hid l15
        have D6 := Lib.hid b6
        have B6 := Lib.hid (below_call B5.out b6)
        have S6 := Lib.hid (Same.of b6)
        clear l15 b6
        go_wp2_with fail
        refine hK.out _ _ ?_ (fun hHeld => ?_)
        ·exact HC.out _ B6.out
        clear hK K
        (try simp only [Act.put, List.setIfInBounds_toArray, List.set_cons_zero, List.set_cons_succ])
        refine wpAnyH_ready (rs := [16]) (by kernel_rfl) (by simp) ?_
        refine AllReadyH.cons (o := qo16) rfl (fun K hK => ?_) ?_
        ·unfold qo16; go_simp
         obtain ⟨y7, hy7⟩ : ∃ z, z = y6.alloc (.cells #[.slice (some ⟨g0, 0, none⟩) 8 8, .slice (some ⟨g9, 0, none⟩) 8 8, .slice (some ⟨g15, 0, none⟩) 16 16] 22) := ⟨_, rfl⟩
         obtain ⟨g16, hg16⟩ : ∃ z, z = y6.heap.size := ⟨_, rfl⟩
         have D7 := Lib.hid (show Below y6.heap.size y6 y7 from by rw [hy7]; exact below_new _ _)
         have B7 := Lib.hid (below_call B6.out D7.out)
         have S7 := Lib.hid (Same.of D7.out)
         have P16 := Lib.hid (show y7.cell? ⟨g16, 0, none⟩ = _ ∧ y7.cell? ⟨g16, 1, none⟩ = _ ∧ y7.cell? ⟨g16, 2, none⟩ = _ from by rw [hy7, hg16]; exact three_cells _ _ _ _)
         rw [← hg16, ← hy7]
         clear hy7 hg16
         refine hK.out _ _ ?_ (fun hHeld => ?_)
         ·exact HC.out _ B7.out
         clear hK K
         (try simp only [Act.put, List.setIfInBounds_toArray, List.set_cons_zero, List.set_cons_succ])
         refine wpAnyH_ready (rs := [17]) (by kernel_rfl) (by simp) ?_
         refine AllReadyH.cons (o := qo17) rfl (fun K hK => ?_) ?_
         ·unfold qo17; go_simp
          refine (join8 p k o n _ g16 y7.heap.size g0 g9 g15 rfl P16.out (L0.out.keep (((((S2.out.trans S3.out).trans S4.out).trans S5.out).trans S6.out).trans S7.out).cell) (L9.out.keep (S6.out.trans S7.out).cell) (L15.out.keep S7.out.cell)).mono ?_
          rintro e y8 ⟨rfl, o8, b8, z8⟩
          have B8 := Lib.hid (below_call B7.out b8)
          have Z := Lib.hid (show _ ∧ _ ∧ w1.heap.size ≤ y7.heap.size from And.intro o8 (And.intro z8 B7.out.size))
          clear o8 z8 b8
          generalize y7.heap.size = gf at *
          go_wp2_with fail
          refine hK.out _ _ ?_ (fun hHeld => ?_)
          ·exact HC.out _ B8.out
          clear hK K
          (try simp only [Act.put, List.setIfInBounds_toArray, List.set_cons_zero, List.set_cons_succ])
          refine wpAnyH_take (i := 18) (oi := qo18) (v := ?_) rfl (by kernel_rfl) (by kernel_rfl) (by kernel_rfl) (fun _ _ _ h => h) (Or.inl ⟨by rfl, ?_⟩) (by assumption) ?_
          rotate_left
          ·(intro w hSw; (try dsimp only at hSw); unfold qo18; go_simp) <;> with_reducible rfl
          unfold qo18; (try simp only [Act.put, List.setIfInBounds_toArray, List.set_cons_zero, List.set_cons_succ])
          refine wpAnyH_done (by kernel_rfl) ?_ _
          refine NoPanic.normal ?_
          go_wp2_with fail
          go_ret
          exact ⟨gf, rfl, fin8 BB.out.1 B8.out Z.out⟩
         exact AllReadyH.nil
        exact AllReadyH.nil
       exact AllReadyH.nil
      exact AllReadyH.nil
     exact AllReadyH.nil
    exact AllReadyH.nil
   refine AllReadyH.cons (o := qo8) rfl (fun K hK => ?_) ?_
   ·unfold qo8; go_simp
    obtain ⟨y2, hy2⟩ : ∃ z, z = y1.alloc (.cells #[.int .u64 x, .int .u64 y] 28) := ⟨_, rfl⟩
    obtain ⟨g8, hg8⟩ : ∃ z, z = y1.heap.size := ⟨_, rfl⟩
    have D2 := Lib.hid (show Below y1.heap.size y1 y2 from by rw [hy2]; exact below_new _ _)
    have B2 := Lib.hid (below_call B1.out D2.out)
    have S2 := Lib.hid (Same.of D2.out)
    have P8 := Lib.hid (show y2.cell? ⟨g8, 0, none⟩ = _ ∧ y2.cell? ⟨g8, 1, none⟩ = _ from by rw [hy2, hg8]; exact pair_cells _ _ _)
    rw [← hg8, ← hy2]
    clear hy2 hg8
    refine hK.out _ _ ?_ (fun hHeld => ?_)
    ·exact HC.out _ B2.out
    clear hK K
    (try simp only [Act.put, List.setIfInBounds_toArray, List.set_cons_zero, List.set_cons_succ])
    refine wpAnyH_ready (rs := [1, 9, 14]) (by kernel_rfl) (by simp) ?_
    refine AllReadyH.cons (o := qo1) rfl (fun K hK => ?_) ?_
    ·unfold qo1
     obtain ⟨y3, hcv, s3, t3⟩ := conv_mark y2 g0 8 8 _ ((D2.out.block g0 (by have := K0s.out; omega)).trans K0.out)
     have S3 := Lib.hid s3
     have B3 := Lib.hid (t3 _ _ B2.out K0s.out.2)
     clear s3 t3
     go_simp
     clear hcv
     refine hK.out _ _ ?_ (fun hHeld => ?_)
     ·exact HC.out _ B3.out
     clear hK K
     (try simp only [Act.put, List.setIfInBounds_toArray, List.set_cons_zero, List.set_cons_succ])
     refine wpAnyH_ready (rs := [9, 14]) (by kernel_rfl) (by simp) ?_
     refine AllReadyH.cons (o := qo9) rfl (fun K hK => ?_) ?_
     ·unfold qo9; go_simp
      refine (bytes_two 4 8 (by omega) rfl x y p k g8 HX.out.1 HX.out.2.1 (by have := HX.out; omega) (by have := HX.out; omega) _ (S3.out.some P8.out.1) (S3.out.some P8.out.2)).mono ?_
      rintro e y4 ⟨g9, rfl, l9, b4⟩
      have L9 := Lib.hid l9
      have D4 := Lib.hid b4
      have B4 := Lib.hid (below_call B3.out b4)
      have S4 := Lib.hid (Same.of b4)
      clear l9 b4
      go_wp2_with fail
      refine hK.out _ _ ?_ (fun hHeld => ?_)
      ·exact HC.out _ B4.out
      clear hK K
      (try simp only [Act.put, List.setIfInBounds_toArray, List.set_cons_zero, List.set_cons_succ])
      refine wpAnyH_ready (rs := [14]) (by kernel_rfl) (by simp) ?_
      refine AllReadyH.cons (o := qo14) rfl (fun K hK => ?_) ?_
      ·unfold qo14; go_simp
       obtain ⟨y5, hy5⟩ : ∃ z, z = y4.alloc (.cells #[.int .u64 (o : Int), .int .u64 (n : Int)] 28) := ⟨_, rfl⟩
       obtain ⟨g14, hg14⟩ : ∃ z, z = y4.heap.size := ⟨_, rfl⟩
       have D5 := Lib.hid (show Below y4.heap.size y4 y5 from by rw [hy5]; exact below_new _ _)
       have B5 := Lib.hid (below_call B4.out D5.out)
       have S5 := Lib.hid (Same.of D5.out)
       have P14 := Lib.hid (show y5.cell? ⟨g14, 0, none⟩ = _ ∧ y5.cell? ⟨g14, 1, none⟩ = _ from by rw [hy5, hg14]; exact pair_cells _ _ _)
       rw [← hg14, ← hy5]
       clear hy5 hg14
       refine hK.out _ _ ?_ (fun hHeld => ?_)
       ·exact HC.out _ B5.out
       clear hK K
       (try simp only [Act.put, List.setIfInBounds_toArray, List.set_cons_zero, List.set_cons_succ])
       refine wpAnyH_ready (rs := [15]) (by kernel_rfl) (by simp) ?_
       refine AllReadyH.cons (o := qo15) rfl (fun K hK => ?_) ?_
       ·unfold qo15; go_simp
        refine (bytes_two 8 16 (by omega) rfl (o : Int) (n : Int) o n g14 rfl rfl HX.out.2.2.2.2.1 HX.out.2.2.2.2.2 _ ((Same.refl _).some P14.out.1) ((Same.refl _).some P14.out.2)).mono ?_
        rintro e y6 ⟨g15, rfl, l15, b6⟩
        have L15 := Lib.hid l15
        have D6 := Lib.hid b6
        have B6 := Lib.hid (below_call B5.out b6)
        have S6 := Lib.hid (Same.of b6)
        clear l15 b6
        go_wp2_with fail
        refine hK.out _ _ ?_ (fun hHeld => ?_)
        ·exact HC.out _ B6.out
        clear hK K
        (try simp only [Act.put, List.setIfInBounds_toArray, List.set_cons_zero, List.set_cons_succ])
        refine wpAnyH_ready (rs := [16]) (by kernel_rfl) (by simp) ?_
        refine AllReadyH.cons (o := qo16) rfl (fun K hK => ?_) ?_
        ·unfold qo16; go_simp
         obtain ⟨y7, hy7⟩ : ∃ z, z = y6.alloc (.cells #[.slice (some ⟨g0, 0, none⟩) 8 8, .slice (some ⟨g9, 0, none⟩) 8 8, .slice (some ⟨g15, 0, none⟩) 16 16] 22) := ⟨_, rfl⟩
         obtain ⟨g16, hg16⟩ : ∃ z, z = y6.heap.size := ⟨_, rfl⟩
         have D7 := Lib.hid (show Below y6.heap.size y6 y7 from by rw [hy7]; exact below_new _ _)
         have B7 := Lib.hid (below_call B6.out D7.out)
         have S7 := Lib.hid (Same.of D7.out)
         have P16 := Lib.hid (show y7.cell? ⟨g16, 0, none⟩ = _ ∧ y7.cell? ⟨g16, 1, none⟩ = _ ∧ y7.cell? ⟨g16, 2, none⟩ = _ from by rw [hy7, hg16]; exact three_cells _ _ _ _)
         rw [← hg16, ← hy7]
         clear hy7 hg16
         refine hK.out _ _ ?_ (fun hHeld => ?_)
         ·exact HC.out _ B7.out
         clear hK K
         (try simp only [Act.put, List.setIfInBounds_toArray, List.set_cons_zero, List.set_cons_succ])
         refine wpAnyH_ready (rs := [17]) (by kernel_rfl) (by simp) ?_
         refine AllReadyH.cons (o := qo17) rfl (fun K hK => ?_) ?_
         ·unfold qo17; go_simp
          refine (join8 p k o n _ g16 y7.heap.size g0 g9 g15 rfl P16.out (L0.out.keep (((((S2.out.trans S3.out).trans S4.out).trans S5.out).trans S6.out).trans S7.out).cell) (L9.out.keep ((S5.out.trans S6.out).trans S7.out).cell) (L15.out.keep S7.out.cell)).mono ?_
          rintro e y8 ⟨rfl, o8, b8, z8⟩
          have B8 := Lib.hid (below_call B7.out b8)
          have Z := Lib.hid (show _ ∧ _ ∧ w1.heap.size ≤ y7.heap.size from And.intro o8 (And.intro z8 B7.out.size))
          clear o8 z8 b8
          generalize y7.heap.size = gf at *
          go_wp2_with fail
          refine hK.out _ _ ?_ (fun hHeld => ?_)
          ·exact HC.out _ B8.out
          clear hK K
          (try simp only [Act.put, List.setIfInBounds_toArray, List.set_cons_zero, List.set_cons_succ])
          refine wpAnyH_take (i := 18) (oi := qo18) (v := ?_) rfl (by kernel_rfl) (by kernel_rfl) (by kernel_rfl) (fun _ _ _ h => h) (Or.inl ⟨by rfl, ?_⟩) (by assumption) ?_
          rotate_left
          ·(intro w hSw; (try dsimp only at hSw); unfold qo18; go_simp) <;> with_reducible rfl
          unfold qo18; (try simp only [Act.put, List.setIfInBounds_toArray, List.set_cons_zero, List.set_cons_succ])
          refine wpAnyH_done (by kernel_rfl) ?_ _
          refine NoPanic.normal ?_
          go_wp2_with fail
          go_ret
          exact ⟨gf, rfl, fin8 BB.out.1 B8.out Z.out⟩
         exact AllReadyH.nil
        exact AllReadyH.nil
       exact AllReadyH.nil
      exact AllReadyH.nil
     refine AllReadyH.cons (o := qo14) rfl (fun K hK => ?_) ?_
     ·unfold qo14; go_simp
      obtain ⟨y4, hy4⟩ : ∃ z, z = y3.alloc (.cells #[.int .u64 (o : Int), .int .u64 (n : Int)] 28) := ⟨_, rfl⟩
      obtain ⟨g14, hg14⟩ : ∃ z, z = y3.heap.size := ⟨_, rfl⟩
      have D4 := Lib.hid (show Below y3.heap.size y3 y4 from by rw [hy4]; exact below_new _ _)
      have B4 := Lib.hid (below_call B3.out D4.out)
      have S4 := Lib.hid (Same.of D4.out)
      have P14 := Lib.hid (show y4.cell? ⟨g14, 0, none⟩ = _ ∧ y4.cell? ⟨g14, 1, none⟩ = _ from by rw [hy4, hg14]; exact pair_cells _ _ _)
      rw [← hg14, ← hy4]
      clear hy4 hg14
      refine hK.out _ _ ?_ (fun hHeld => ?_)
      ·exact HC.out _ B4.out
      clear hK K
      (try simp only [Act.put, List.setIfInBounds_toArray, List.set_cons_zero, List.set_cons_succ])
      refine wpAnyH_ready (rs := [9]) (by kernel_rfl) (by simp) ?_
      refine AllReadyH.cons (o := qo9) rfl (fun K hK => ?_) ?_
      ·unfold qo9; go_simp
       refine (bytes_two 4 8 (by omega) rfl x y p k g8 HX.out.1 HX.out.2.1 (by have := HX.out; omega) (by have := HX.out; omega) _ ((S3.out.trans S4.out).some P8.out.1) ((S3.out.trans S4.out).some P8.out.2)).mono ?_
       rintro e y5 ⟨g9, rfl, l9, b5⟩
       have L9 := Lib.hid l9
       have D5 := Lib.hid b5
       have B5 := Lib.hid (below_call B4.out b5)
       have S5 := Lib.hid (Same.of b5)
       clear l9 b5
       go_wp2_with fail
       refine hK.out _ _ ?_ (fun hHeld => ?_)
       ·exact HC.out _ B5.out
       clear hK K
       (try simp only [Act.put, List.setIfInBounds_toArray, List.set_cons_zero, List.set_cons_succ])
       refine wpAnyH_ready (rs := [15]) (by kernel_rfl) (by simp) ?_
       refine AllReadyH.cons (o := qo15) rfl (fun K hK => ?_) ?_
       ·unfold qo15; go_simp
        refine (bytes_two 8 16 (by omega) rfl (o : Int) (n : Int) o n g14 rfl rfl HX.out.2.2.2.2.1 HX.out.2.2.2.2.2 _ (S5.out.some P14.out.1) (S5.out.some P14.out.2)).mono ?_
        rintro e y6 ⟨g15, rfl, l15, b6⟩
        have L15 := Lib.hid l15
        have D6 := Lib.hid b6
        have B6 := Lib.hid (below_call B5.out b6)
        have S6 := Lib.hid (Same.of b6)
        clear l15 b6
        go_wp2_with fail
        refine hK.out _ _ ?_ (fun hHeld => ?_)
        ·exact HC.out _ B6.out
        clear hK K
        (try simp only [Act.put, List.setIfInBounds_toArray, List.set_cons_zero, List.set_cons_succ])
        refine wpAnyH_ready (rs := [16]) (by kernel_rfl) (by simp) ?_
        refine AllReadyH.cons (o := qo16) rfl (fun K hK => ?_) ?_
        ·unfold qo16; go_simp
         obtain ⟨y7, hy7⟩ : ∃ z, z = y6.alloc (.cells #[.slice (some ⟨g0, 0, none⟩) 8 8, .slice (some ⟨g9, 0, none⟩) 8 8, .slice (some ⟨g15, 0, none⟩) 16 16] 22) := ⟨_, rfl⟩
         obtain ⟨g16, hg16⟩ : ∃ z, z = y6.heap.size := ⟨_, rfl⟩
         have D7 := Lib.hid (show Below y6.heap.size y6 y7 from by rw [hy7]; exact below_new _ _)
         have B7 := Lib.hid (below_call B6.out D7.out)
         have S7 := Lib.hid (Same.of D7.out)
         have P16 := Lib.hid (show y7.cell? ⟨g16, 0, none⟩ = _ ∧ y7.cell? ⟨g16, 1, none⟩ = _ ∧ y7.cell? ⟨g16, 2, none⟩ = _ from by rw [hy7, hg16]; exact three_cells _ _ _ _)
         rw [← hg16, ← hy7]
         clear hy7 hg16
         refine hK.out _ _ ?_ (fun hHeld => ?_)
         ·exact HC.out _ B7.out
         clear hK K
         (try simp only [Act.put, List.setIfInBounds_toArray, List.set_cons_zero, List.set_cons_succ])
         refine wpAnyH_ready (rs := [17]) (by kernel_rfl) (by simp) ?_
         refine AllReadyH.cons (o := qo17) rfl (fun K hK => ?_) ?_
         ·unfold qo17; go_simp
          refine (join8 p k o n _ g16 y7.heap.size g0 g9 g15 rfl P16.out (L0.out.keep (((((S2.out.trans S3.out).trans S4.out).trans S5.out).trans S6.out).trans S7.out).cell) (L9.out.keep (S6.out.trans S7.out).cell) (L15.out.keep S7.out.cell)).mono ?_
          rintro e y8 ⟨rfl, o8, b8, z8⟩
          have B8 := Lib.hid (below_call B7.out b8)
          have Z := Lib.hid (show _ ∧ _ ∧ w1.heap.size ≤ y7.heap.size from And.intro o8 (And.intro z8 B7.out.size))
          clear o8 z8 b8
          generalize y7.heap.size = gf at *
          go_wp2_with fail
          refine hK.out _ _ ?_ (fun hHeld => ?_)
          ·exact HC.out _ B8.out
          clear hK K
          (try simp only [Act.put, List.setIfInBounds_toArray, List.set_cons_zero, List.set_cons_succ])
          refine wpAnyH_take (i := 18) (oi := qo18) (v := ?_) rfl (by kernel_rfl) (by kernel_rfl) (by kernel_rfl) (fun _ _ _ h => h) (Or.inl ⟨by rfl, ?_⟩) (by assumption) ?_
          rotate_left
          ·(intro w hSw; (try dsimp only at hSw); unfold qo18; go_simp) <;> with_reducible rfl
          unfold qo18; (try simp only [Act.put, List.setIfInBounds_toArray, List.set_cons_zero, List.set_cons_succ])
          refine wpAnyH_done (by kernel_rfl) ?_ _
          refine NoPanic.normal ?_
          go_wp2_with fail
          go_ret
          exact ⟨gf, rfl, fin8 BB.out.1 B8.out Z.out⟩
         exact AllReadyH.nil
        exact AllReadyH.nil
       exact AllReadyH.nil
      exact AllReadyH.nil
     exact AllReadyH.nil
    refine AllReadyH.cons (o := qo9) rfl (fun K hK => ?_) ?_
    ·unfold qo9; go_simp
     refine (bytes_two 4 8 (by omega) rfl x y p k g8 HX.out.1 HX.out.2.1 (by have := HX.out; omega) (by have := HX.out; omega) _ ((Same.refl _).some P8.out.1) ((Same.refl _).some P8.out.2)).mono ?_
     rintro e y3 ⟨g9, rfl, l9, b3⟩
     have L9 := Lib.hid l9
     have D3 := Lib.hid b3
     have B3 := Lib.hid (below_call B2.out b3)
     have S3 := Lib.hid (Same.of b3)
     clear l9 b3
     go_wp2_with fail
     refine hK.out _ _ ?_ (fun hHeld => ?_)
     ·exact HC.out _ B3.out
     clear hK K
     (try simp only [Act.put, List.setIfInBounds_toArray, List.set_cons_zero, List.set_cons_succ])
     refine wpAnyH_ready (rs := [1, 14]) (by kernel_rfl) (by simp) ?_
     refine AllReadyH.cons (o := qo1) rfl (fun K hK => ?_) ?_
     ·unfold qo1
      obtain ⟨y4, hcv, s4, t4⟩ := conv_mark y3 g0 8 8 _ ((D3.out.block g0 (by have := K0s.out; have := D2.out.size; omega)).trans ((D2.out.block g0 (by have := K0s.out; omega)).trans K0.out))
      have S4 := Lib.hid s4
      have B4 := Lib.hid (t4 _ _ B3.out K0s.out.2)
      clear s4 t4
      go_simp
      clear hcv
      refine hK.out _ _ ?_ (fun hHeld => ?_)
      ·exact HC.out _ B4.out
      clear hK K
      (try simp only [Act.put, List.setIfInBounds_toArray, List.set_cons_zero, List.set_cons_succ])
      refine wpAnyH_ready (rs := [14]) (by kernel_rfl) (by simp) ?_
      refine AllReadyH.cons (o := qo14) rfl (fun K hK => ?_) ?_
      ·unfold qo14; go_simp
       obtain ⟨y5, hy5⟩ : ∃ z, z = y4.alloc (.cells #[.int .u64 (o : Int), .int .u64 (n : Int)] 28) := ⟨_, rfl⟩
       obtain ⟨g14, hg14⟩ : ∃ z, z = y4.heap.size := ⟨_, rfl⟩
       have D5 := Lib.hid (show Below y4.heap.size y4 y5 from by rw [hy5]; exact below_new _ _)
       have B5 := Lib.hid (below_call B4.out D5.out)
       have S5 := Lib.hid (Same.of D5.out)
       have P14 := Lib.hid (show y5.cell? ⟨g14, 0, none⟩ = _ ∧ y5.cell? ⟨g14, 1, none⟩ = _ from by rw [hy5, hg14]; exact pair_cells _ _ _)
       rw [← hg14, ← hy5]
       clear hy5 hg14
       refine hK.out _ _ ?_ (fun hHeld => ?_)
       ·exact HC.out _ B5.out
       clear hK K
       (try simp only [Act.put, List.setIfInBounds_toArray, List.set_cons_zero, List.set_cons_succ])
       refine wpAnyH_ready (rs := [15]) (by kernel_rfl) (by simp) ?_
       refine AllReadyH.cons (o := qo15) rfl (fun K hK => ?_) ?_
       ·unfold qo15; go_simp
        refine (bytes_two 8 16 (by omega) rfl (o : Int) (n : Int) o n g14 rfl rfl HX.out.2.2.2.2.1 HX.out.2.2.2.2.2 _ ((Same.refl _).some P14.out.1) ((Same.refl _).some P14.out.2)).mono ?_
        rintro e y6 ⟨g15, rfl, l15, b6⟩
        have L15 := Lib.hid l15
        have D6 := Lib.hid b6
        have B6 := Lib.hid (below_call B5.out b6)
        have S6 := Lib.hid (Same.of b6)
        clear l15 b6
        go_wp2_with fail
        refine hK.out _ _ ?_ (fun hHeld => ?_)
        ·exact HC.out _ B6.out
        clear hK K
        (try simp only [Act.put, List.setIfInBounds_toArray, List.set_cons_zero, List.set_cons_succ])
        refine wpAnyH_ready (rs := [16]) (by kernel_rfl) (by simp) ?_
        refine AllReadyH.cons (o := qo16) rfl (fun K hK => ?_) ?_
        ·unfold qo16; go_simp
         obtain ⟨y7, hy7⟩ : ∃ z, z = y6.alloc (.cells #[.slice (some ⟨g0, 0, none⟩) 8 8, .slice (some ⟨g9, 0, none⟩) 8 8, .slice (some ⟨g15, 0, none⟩) 16 16] 22) := ⟨_, rfl⟩
         obtain ⟨g16, hg16⟩ : ∃ z, z = y6.heap.size := ⟨_, rfl⟩
         have D7 := Lib.hid (show Below y6.heap.size y6 y7 from by rw [hy7]; exact below_new _ _)
         have B7 := Lib.hid (below_call B6.out D7.out)
         have S7 := Lib.hid (Same.of D7.out)
         have P16 := Lib.hid (show y7.cell? ⟨g16, 0, none⟩ = _ ∧ y7.cell? ⟨g16, 1, none⟩ = _ ∧ y7.cell? ⟨g16, 2, none⟩ = _ from by rw [hy7, hg16]; exact three_cells _ _ _ _)
         rw [← hg16, ← hy7]
         clear hy7 hg16
         refine hK.out _ _ ?_ (fun hHeld => ?_)
         ·exact HC.out _ B7.out
         clear hK K
         (try simp only [Act.put, List.setIfInBounds_toArray, List.set_cons_zero, List.set_cons_succ])
         refine wpAnyH_ready (rs := [17]) (by kernel_rfl) (by simp) ?_
         refine AllReadyH.cons (o := qo17) rfl (fun K hK => ?_) ?_
         ·unfold qo17; go_simp
          refine (join8 p k o n _ g16 y7.heap.size g0 g9 g15 rfl P16.out (L0.out.keep (((((S2.out.trans S3.out).trans S4.out).trans S5.out).trans S6.out).trans S7.out).cell) (L9.out.keep (((S4.out.trans S5.out).trans S6.out).trans S7.out).cell) (L15.out.keep S7.out.cell)).mono ?_
          rintro e y8 ⟨rfl, o8, b8, z8⟩
          have B8 := Lib.hid (below_call B7.out b8)
          have Z := Lib.hid (show _ ∧ _ ∧ w1.heap.size ≤ y7.heap.size from And.intro o8 (And.intro z8 B7.out.size))
          clear o8 z8 b8
          generalize y7.heap.size = gf at *
          go_wp2_with fail
          refine hK.out _ _ ?_ (fun hHeld => ?_)
          ·exact HC.out _ B8.out
          clear hK K
          (try simp only [Act.put, List.setIfInBounds_toArray, List.set_cons_zero, List.set_cons_succ])
          refine wpAnyH_take (i := 18) (oi := qo18) (v := ?_) rfl (by kernel_rfl) (by kernel_rfl) (by kernel_rfl) (fun _ _ _ h => h) (Or.inl ⟨by rfl, ?_⟩) (by assumption) ?_
          rotate_left
          ·(intro w hSw; (try dsimp only at hSw); unfold qo18; go_simp) <;> with_reducible rfl
          unfold qo18; (try simp only [Act.put, List.setIfInBounds_toArray, List.set_cons_zero, List.set_cons_succ])
          refine wpAnyH_done (by kernel_rfl) ?_ _
          refine NoPanic.normal ?_
          go_wp2_with fail
          go_ret
          exact ⟨gf, rfl, fin8 BB.out.1 B8.out Z.out⟩
         exact AllReadyH.nil
        exact AllReadyH.nil
       exact AllReadyH.nil
      exact AllReadyH.nil
     refine AllReadyH.cons (o := qo14) rfl (fun K hK => ?_) ?_
     ·unfold qo14; go_simp
      obtain ⟨y4, hy4⟩ : ∃ z, z = y3.alloc (.cells #[.int .u64 (o : Int), .int .u64 (n : Int)] 28) := ⟨_, rfl⟩
      obtain ⟨g14, hg14⟩ : ∃ z, z = y3.heap.size := ⟨_, rfl⟩
      have D4 := Lib.hid (show Below y3.heap.size y3 y4 from by rw [hy4]; exact below_new _ _)
      have B4 := Lib.hid (below_call B3.out D4.out)
      have S4 := Lib.hid (Same.of D4.out)
      have P14 := Lib.hid (show y4.cell? ⟨g14, 0, none⟩ = _ ∧ y4.cell? ⟨g14, 1, none⟩ = _ from by rw [hy4, hg14]; exact pair_cells _ _ _)
      rw [← hg14, ← hy4]
      clear hy4 hg14
      refine hK.out _ _ ?_ (fun hHeld => ?_)
      ·exact HC.out _ B4.out
      clear hK K
      (try simp only [Act.put, List.setIfInBounds_toArray, List.set_cons_zero, List.set_cons_succ])
      refine wpAnyH_ready (rs := [1, 15]) (by kernel_rfl) (by simp) ?_
      refine AllReadyH.cons (o := qo1) rfl (fun K hK => ?_) ?_
      ·unfold qo1
       obtain ⟨y5, hcv, s5, t5⟩ := conv_mark y4 g0 8 8 _ ((D4.out.block g0 (by have := K0s.out; have := D2.out.size; have := D3.out.size; omega)).trans ((D3.out.block g0 (by have := K0s.out; have := D2.out.size; omega)).trans ((D2.out.block g0 (by have := K0s.out; omega)).trans K0.out)))
       have S5 := Lib.hid s5
       have B5 := Lib.hid (t5 _ _ B4.out K0s.out.2)
       clear s5 t5
       go_simp
       clear hcv
       refine hK.out _ _ ?_ (fun hHeld => ?_)
       ·exact HC.out _ B5.out
       clear hK K
       (try simp only [Act.put, List.setIfInBounds_toArray, List.set_cons_zero, List.set_cons_succ])
       refine wpAnyH_ready (rs := [15]) (by kernel_rfl) (by simp) ?_
       refine AllReadyH.cons (o := qo15) rfl (fun K hK => ?_) ?_
       ·unfold qo15; go_simp
        refine (bytes_two 8 16 (by omega) rfl (o : Int) (n : Int) o n g14 rfl rfl HX.out.2.2.2.2.1 HX.out.2.2.2.2.2 _ (S5.out.some P14.out.1) (S5.out.some P14.out.2)).mono ?_
        rintro e y6 ⟨g15, rfl, l15, b6⟩
        have L15 := Lib.hid l15
        have D6 := Lib.hid b6
        have B6 := Lib.hid (below_call B5.out b6)
        have S6 := Lib.hid (Same.of b6)
        clear l15 b6
        go_wp2_with fail
        refine hK.out _ _ ?_ (fun hHeld => ?_)
        ·exact HC.out _ B6.out
        clear hK K
        (try simp only [Act.put, List.setIfInBounds_toArray, List.set_cons_zero, List.set_cons_succ])
        refine wpAnyH_ready (rs := [16]) (by kernel_rfl) (by simp) ?_
        refine AllReadyH.cons (o := qo16) rfl (fun K hK => ?_) ?_
        ·unfold qo16; go_simp
         obtain ⟨y7, hy7⟩ : ∃ z, z = y6.alloc (.cells #[.slice (some ⟨g0, 0, none⟩) 8 8, .slice (some ⟨g9, 0, none⟩) 8 8, .slice (some ⟨g15, 0, none⟩) 16 16] 22) := ⟨_, rfl⟩
         obtain ⟨g16, hg16⟩ : ∃ z, z = y6.heap.size := ⟨_, rfl⟩
         have D7 := Lib.hid (show Below y6.heap.size y6 y7 from by rw [hy7]; exact below_new _ _)
         have B7 := Lib.hid (below_call B6.out D7.out)
         have S7 := Lib.hid (Same.of D7.out)
         have P16 := Lib.hid (show y7.cell? ⟨g16, 0, none⟩ = _ ∧ y7.cell? ⟨g16, 1, none⟩ = _ ∧ y7.cell? ⟨g16, 2, none⟩ = _ from by rw [hy7, hg16]; exact three_cells _ _ _ _)
         rw [← hg16, ← hy7]
         clear hy7 hg16
         refine hK.out _ _ ?_ (fun hHeld => ?_)
         ·exact HC.out _ B7.out
         clear hK K
         (try simp only [Act.put, List.setIfInBounds_toArray, List.set_cons_zero, List.set_cons_succ])
         refine wpAnyH_ready (rs := [17]) (by kernel_rfl) (by simp) ?_
         refine AllReadyH.cons (o := qo17) rfl (fun K hK => ?_) ?_
         ·unfold qo17; go_simp
          refine (join8 p k o n _ g16 y7.heap.size g0 g9 g15 rfl P16.out (L0.out.keep (((((S2.out.trans S3.out).trans S4.out).trans S5.out).trans S6.out).trans S7.out).cell) (L9.out.keep (((S4.out.trans S5.out).trans S6.out).trans S7.out).cell) (L15.out.keep S7.out.cell)).mono ?_
          rintro e y8 ⟨rfl, o8, b8, z8⟩
          have B8 := Lib.hid (below_call B7.out b8)
          have Z := Lib.hid (show _ ∧ _ ∧ w1.heap.size ≤ y7.heap.size from And.intro o8 (And.intro z8 B7.out.size))
          clear o8 z8 b8
          generalize y7.heap.size = gf at *
          go_wp2_with fail
          refine hK.out _ _ ?_ (fun hHeld => ?_)
          ·exact HC.out _ B8.out
          clear hK K
          (try simp only [Act.put, List.setIfInBounds_toArray, List.set_cons_zero, List.set_cons_succ])
          refine wpAnyH_take (i := 18) (oi := qo18) (v := ?_) rfl (by kernel_rfl) (by kernel_rfl) (by kernel_rfl) (fun _ _ _ h => h) (Or.inl ⟨by rfl, ?_⟩) (by assumption) ?_
          rotate_left
          ·(intro w hSw; (try dsimp only at hSw); unfold qo18; go_simp) <;> with_reducible rfl
          unfold qo18; (try simp only [Act.put, List.setIfInBounds_toArray, List.set_cons_zero, List.set_cons_succ])
          refine wpAnyH_done (by kernel_rfl) ?_ _
          refine NoPanic.normal ?_
          go_wp2_with fail
          go_ret
          exact ⟨gf, rfl, fin8 BB.out.1 B8.out Z.out⟩
         exact AllReadyH.nil
        exact AllReadyH.nil
       exact AllReadyH.nil
      refine AllReadyH.cons (o := qo15) rfl (fun K hK => ?_) ?_
      ·unfold qo15; go_simp
       refine (bytes_two 8 16 (by omega) rfl (o : Int) (n : Int) o n g14 rfl rfl HX.out.2.2.2.2.1 HX.out.2.2.2.2.2 _ ((Same.refl _).some P14.out.1) ((Same.refl _).some P14.out.2)).mono ?_
       rintro e y5 ⟨g15, rfl, l15, b5⟩
       have L15 := Lib.hid l15
       have D5 := Lib.hid b5
       have B5 := Lib.hid (below_call B4.out b5)
       have S5 := Lib.hid (Same.of b5)
       clear l15 b5
       go_wp2_with fail
       refine hK.out _ _ ?_ (fun hHeld => ?_)
       ·exact HC.out _ B5.out
       clear hK K
       (try simp only [Act.put, List.setIfInBounds_toArray, List.set_cons_zero, List.set_cons_succ])
       refine wpAnyH_ready (rs := [1]) (by kernel_rfl) (by simp) ?_
       refine AllReadyH.cons (o := qo1) rfl (fun K hK => ?_) ?_
       ·unfold qo1
        obtain ⟨y6, hcv, s6, t6⟩ := conv_mark y5 g0 8 8 _ ((D5.out.block g0 (by have := K0s.out; have := D2.out.size; have := D3.out.size; have := D4.out.size; omega)).trans ((D4.out.block g0 (by have := K0s.out; have := D2.out.size; have := D3.out.size; omega)).trans ((D3.out.block g0 (by have := K0s.out; have := D2.out.size; omega)).trans ((D2.out.block g0 (by have := K0s.out; omega)).trans K0.out))))
        have S6 := Lib.hid s6
        have B6 := Lib.hid (t6 _ _ B5.out K0s.out.2)
        clear s6 t6
        go_simp
        clear hcv
        refine hK.out _ _ ?_ (fun hHeld => ?_)
        ·exact HC.out _ B6.out
        clear hK K
        (try simp only [Act.put, List.setIfInBounds_toArray, List.set_cons_zero, List.set_cons_succ])
        refine wpAnyH_ready (rs := [16]) (by kernel_rfl) (by simp) ?_
        refine AllReadyH.cons (o := qo16) rfl (fun K hK => ?_) ?_
        ·unfold qo16; go_simp
         obtain ⟨y7, hy7⟩ : ∃ z, z = y6.alloc (.cells #[.slice (some ⟨g0, 0, none⟩) 8 8, .slice (some ⟨g9, 0, none⟩) 8 8, .slice (some ⟨g15, 0, none⟩) 16 16] 22) := ⟨_, rfl⟩
         obtain ⟨g16, hg16⟩ : ∃ z, z = y6.heap.size := ⟨_, rfl⟩
         have D7 := Lib.hid (show Below y6.heap.size y6 y7 from by rw [hy7]; exact below_new _ _)
         have B7 := Lib.hid (below_call B6.out D7.out)
         have S7 := Lib.hid (Same.of D7.out)
         have P16 := Lib.hid (show y7.cell? ⟨g16, 0, none⟩ = _ ∧ y7.cell? ⟨g16, 1, none⟩ = _ ∧ y7.cell? ⟨g16, 2, none⟩ = _ from by rw [hy7, hg16]; exact three_cells _ _ _ _)
         rw [← hg16, ← hy7]
         clear hy7 hg16
         refine hK.out _ _ ?_ (fun hHeld => ?_)
         ·exact HC.out _ B7.out
         clear hK K
         (try simp only [Act.put, List.setIfInBounds_toArray, List.set_cons_zero, List.set_cons_succ])
         refine wpAnyH_ready (rs := [17]) (by kernel_rfl) (by simp) ?_
         refine AllReadyH.cons (o := qo17) rfl (fun K hK => ?_) ?_
         ·unfold qo17; go_simp
          refine (join8 p k o n _ g16 y7.heap.size g0 g9 g15 rfl P16.out (L0.out.keep (((((S2.out.trans S3.out).trans S4.out).trans S5.out).trans S6.out).trans S7.out).cell) (L9.out.keep (((S4.out.trans S5.out).trans S6.out).trans S7.out).cell) (L15.out.keep (S6.out.trans S7.out).cell)).mono ?_
          rintro e y8 ⟨rfl, o8, b8, z8⟩
          have B8 := Lib.hid (below_call B7.out b8)
          have Z := Lib.hid (show _ ∧ _ ∧ w1.heap.size ≤ y7.heap.size from And.intro o8 (And.intro z8 B7.out.size))
          clear o8 z8 b8
          generalize y7.heap.size = gf at *
          go_wp2_with fail
          refine hK.out _ _ ?_ (fun hHeld => ?_)
          ·exact HC.out _ B8.out
          clear hK K
          (try simp only [Act.put, List.setIfInBounds_toArray, List.set_cons_zero, List.set_cons_succ])
          refine wpAnyH_take (i := 18) (oi := qo18) (v := ?_) rfl (by kernel_rfl) (by kernel_rfl) (by kernel_rfl) (fun _ _ _ h => h) (Or.inl ⟨by rfl, ?_⟩) (by assumption) ?_
          rotate_left
          ·(intro w hSw; (try dsimp only at hSw); unfold qo18; go_simp) <;> with_reducible rfl
          unfold qo18; (try simp only [Act.put, List.setIfInBounds_toArray, List.set_cons_zero, List.set_cons_succ])
          refine wpAnyH_done (by kernel_rfl) ?_ _
          refine NoPanic.normal ?_
          go_wp2_with fail
          go_ret
          exact ⟨gf, rfl, fin8 BB.out.1 B8.out Z.out⟩
         exact AllReadyH.nil
        exact AllReadyH.nil
       exact AllReadyH.nil
      exact AllReadyH.nil
     exact AllReadyH.nil
    refine AllReadyH.cons (o := qo14) rfl (fun K hK => ?_) ?_
    ·unfold qo14; go_simp
     obtain ⟨y3, hy3⟩ : ∃ z, z = y2.alloc (.cells #[.int .u64 (o : Int), .int .u64 (n : Int)] 28) := ⟨_, rfl⟩
     obtain ⟨g14, hg14⟩ : ∃ z, z = y2.heap.size := ⟨_, rfl⟩
     have D3 := Lib.hid (show Below y2.heap.size y2 y3 from by rw [hy3]; exact below_new _ _)
     have B3 := Lib.hid (below_call B2.out D3.out)
     have S3 := Lib.hid (Same.of D3.out)
     have P14 := Lib.hid (show y3.cell? ⟨g14, 0, none⟩ = _ ∧ y3.cell? ⟨g14, 1, none⟩ = _ from by rw [hy3, hg14]; exact pair_cells _ _ _)
     rw [← hg14, ← hy3]
     clear hy3 hg14
     refine hK.out _ _ ?_ (fun hHeld => ?_)
     ·exact HC.out _ B3.out
     clear hK K
     (try simp only [Act.put, List.setIfInBounds_toArray, List.set_cons_zero, List.set_cons_succ])
     refine wpAnyH_ready (rs := [1, 9]) (by kernel_rfl) (by simp) ?_
     refine AllReadyH.cons (o := qo1) rfl (fun K hK => ?_) ?_
     ·unfold qo1
      obtain ⟨y4, hcv, s4, t4⟩ := conv_mark y3 g0 8 8 _ ((D3.out.block g0 (by have := K0s.out; have := D2.out.size; omega)).trans ((D2.out.block g0 (by have := K0s.out; omega)).trans K0.out))
      have S4 := Lib.hid s4
      have B4 := Lib.hid (t4 _ _ B3.out K0s.out.2)
      clear s4 t4
      go_simp
      clear hcv
      refine hK.out _ _ ?_ (fun hHeld => ?_)
      ·exact HC.out _ B4.out
      clear hK K
      (try simp only [Act.put, List.setIfInBounds_toArray, List.set_cons_zero, List.set_cons_succ])
      refine wpAnyH_ready (rs := [9]) (by kernel_rfl) (by simp) ?_
      refine AllReadyH.cons (o := qo9) rfl (fun K hK => ?_) ?_
      ·unfold qo9; go_simp
       refine (bytes_two 4 8 (by omega) rfl x y p k g8 HX.out.1 HX.out.2.1 (by have := HX.out; omega) (by have := HX.out; omega) _ ((S3.out.trans S4.out).some P8.out.1) ((S3.out.trans S4.out).some P8.out.2)).mono ?_
       rintro e y5 ⟨g9, rfl, l9, b5⟩
       have L9 := Lib.hid l9
       have D5 := Lib.hid b5
       have B5 := Lib.hid (below_call B4.out b5)
       have S5 := Lib.hid (Same.of b5)
       clear l9 b5
       go_wp2_with fail
       refine hK.out _ _ ?_ (fun hHeld => ?_)
       ·exact HC.out _ B5.out
       clear hK K
       (try simp only [Act.put, List.setIfInBounds_toArray, List.set_cons_zero, List.set_cons_succ])
       refine wpAnyH_ready (rs := [15]) (by kernel_rfl) (by simp) ?_
       refine AllReadyH.cons (o := qo15) rfl (fun K hK => ?_) ?_
       ·unfold qo15; go_simp
        refine (bytes_two 8 16 (by omega) rfl (o : Int) (n : Int) o n g14 rfl rfl HX.out.2.2.2.2.1 HX.out.2.2.2.2.2 _ ((S4.out.trans S5.out).some P14.out.1) ((S4.out.trans S5.out).some P14.out.2)).mono ?_
        rintro e y6 ⟨g15, rfl, l15, b6⟩
        have L15 := Lib.hid l15
        have D6 := Lib.hid b6
        have B6 := Lib.hid (below_call B5.out b6)
        have S6 := Lib.hid (Same.of b6)
        clear l15 b6
        go_wp2_with fail
        refine hK.out _ _ ?_ (fun hHeld => ?_)
        ·exact HC.out _ B6.out
        clear hK K
        (try simp only [Act.put, List.setIfInBounds_toArray, List.set_cons_zero, List.set_cons_succ])
        refine wpAnyH_ready (rs := [16]) (by kernel_rfl) (by simp) ?_
        refine AllReadyH.cons (o := qo16) rfl (fun K hK => ?_) ?_
        ·unfold qo16; go_simp
         obtain ⟨y7, hy7⟩ : ∃ z, z = y6.alloc (.cells #[.slice (some ⟨g0, 0, none⟩) 8 8, .slice (some ⟨g9, 0, none⟩) 8 8, .slice (some ⟨g15, 0, none⟩) 16 16] 22) := ⟨_, rfl⟩
         obtain ⟨g16, hg16⟩ : ∃ z, z = y6.heap.size := ⟨_, rfl⟩
         have D7 := Lib.hid (show Below y6.heap.size y6 y7 from by rw [hy7]; exact below_new _ _)
         have B7 := Lib.hid (below_call B6.out D7.out)
         have S7 := Lib.hid (Same.of D7.out)
         have P16 := Lib.hid (show y7.cell? ⟨g16, 0, none⟩ = _ ∧ y7.cell? ⟨g16, 1, none⟩ = _ ∧ y7.cell? ⟨g16, 2, none⟩ = _ from by rw [hy7, hg16]; exact three_cells _ _ _ _)
         rw [← hg16, ← hy7]
         clear hy7 hg16
         refine hK.out _ _ ?_ (fun hHeld => ?_)
         ·exact HC.out _ B7.out
         clear hK K
         (try simp only [Act.put, List.setIfInBounds_toArray, List.set_cons_zero, List.set_cons_succ])
         refine wpAnyH_ready (rs := [17]) (by kernel_rfl) (by simp) ?_
         refine AllReadyH.cons (o := qo17) rfl (fun K hK => ?_) ?_
         ·unfold qo17; go_simp
          refine (join8 p k o n _ g16 y7.heap.size g0 g9 g15 rfl P16.out (L0.out.keep (((((S2.out.trans S3.out).trans S4.out).trans S5.out).trans S6.out).trans S7.out).cell) (L9.out.keep (S6.out.trans S7.out).cell) (L15.out.keep S7.out.cell)).mono ?_
          rintro e y8 ⟨rfl, o8, b8, z8⟩
          have B8 := Lib.hid (below_call B7.out b8)
          have Z := Lib.hid (show _ ∧ _ ∧ w1.heap.size ≤ y7.heap.size from And.intro o8 (And.intro z8 B7.out.size))
          clear o8 z8 b8
          generalize y7.heap.size = gf at *
          go_wp2_with fail
          refine hK.out _ _ ?_ (fun hHeld => ?_)
          ·exact HC.out _ B8.out
          clear hK K
          (try simp only [Act.put, List.setIfInBounds_toArray, List.set_cons_zero, List.set_cons_succ])
          refine wpAnyH_take (i := 18) (oi := qo18) (v := ?_) rfl (by kernel_rfl) (by kernel_rfl) (by kernel_rfl) (fun _ _ _ h => h) (Or.inl ⟨by rfl, ?_⟩) (by assumption) ?_
          rotate_left
          ·(intro w hSw; (try dsimp only at hSw); unfold qo18; go_simp) <;> with_reducible rfl
          unfold qo18; (try simp only [Act.put, List.setIfInBounds_toArray, List.set_cons_zero, List.set_cons_succ])
          refine wpAnyH_done (by kernel_rfl) ?_ _
          refine NoPanic.normal ?_
          go_wp2_with fail
          go_ret
          exact ⟨gf, rfl, fin8 BB.out.1 B8.out Z.out⟩
         exact AllReadyH.nil
        exact AllReadyH.nil
       exact AllReadyH.nil
      exact AllReadyH.nil
     refine AllReadyH.cons (o := qo9) rfl (fun K hK => ?_) ?_
     ·unfold qo9; go_simp
      refine (bytes_two 4 8 (by omega) rfl x y p k g8 HX.out.1 HX.out.2.1 (by have := HX.out; omega) (by have := HX.out; omega) _ (S3.out.some P8.out.1) (S3.out.some P8.out.2)).mono ?_
      rintro e y4 ⟨g9, rfl, l9, b4⟩
      have L9 := Lib.hid l9
      have D4 := Lib.hid b4
      have B4 := Lib.hid (below_call B3.out b4)
      have S4 := Lib.hid (Same.of b4)
      clear l9 b4
      go_wp2_with fail
      refine hK.out _ _ ?_ (fun hHeld => ?_)
      ·exact HC.out _ B4.out
      clear hK K
      (try simp only [Act.put, List.setIfInBounds_toArray, List.set_cons_zero, List.set_cons_succ])
      refine wpAnyH_ready (rs := [1, 15]) (by kernel_rfl) (by simp) ?_
      refine AllReadyH.cons (o := qo1) rfl (fun K hK => ?_) ?_
      ·unfold qo1
       obtain ⟨y5, hcv, s5, t5⟩ := conv_mark y4 g0 8 8 _ ((D4.out.block g0 (by have := K0s.out; have := D2.out.size; have := D3.out.size; omega)).trans ((D3.out.block g0 (by have := K0s.out; have := D2.out.size; omega)).trans ((D2.out.block g0 (by have := K0s.out; omega)).trans K0.out)))
       have S5 := Lib.hid s5
       have B5 := Lib.hid (t5 _ _ B4.out K0s.out.2)
       clear s5 t5
       go_simp
       clear hcv
       refine hK.out _ _ ?_ (fun hHeld => ?_)
       ·exact HC.out _ B5.out
       clear hK K
       (try simp only [Act.put, List.setIfInBounds_toArray, List.set_cons_zero, List.set_cons_succ])
       refine wpAnyH_ready (rs := [15]) (by kernel_rfl) (by simp) ?_
       refine AllReadyH.cons (o := qo15) rfl (fun K hK => ?_) ?_
       ·unfold qo15; go_simp
        refine (bytes_two 8 16 (by omega) rfl (o : Int) (n : Int) o n g14 rfl rfl HX.out.2.2.2.2.1 HX.out.2.2.2.2.2 _ ((S4.out.trans S5.out).some P14.out.1) ((S4.out.trans S5.out).some P14.out.2)).mono ?_
        rintro e y6 ⟨g15, rfl, l15, b6⟩
        have L15 := Lib.hid l15
        have D6 := Lib.hid b6
        have B6 := Lib.hid (below_call B5.out b6)
        have S6 := Lib.hid (Same.of b6)
        clear l15 b6
        go_wp2_with fail
        refine hK.out _ _ ?_ (fun hHeld => ?_)
        ·exact HC.out _ B6.out
        clear hK K
        (try simp only [Act.put, List.setIfInBounds_toArray, List.set_cons_zero, List.set_cons_succ])
        refine wpAnyH_ready (rs := [16]) (by kernel_rfl) (by simp) ?_
        refine AllReadyH.cons (o := qo16) rfl (fun K hK => ?_) ?_
        ·unfold qo16; go_simp
         obtain ⟨y7, hy7⟩ : ∃ z, z = y6.alloc (.cells #[.slice (some ⟨g0, 0, none⟩) 8 8, .slice (some ⟨g9, 0, none⟩) 8 8, .slice (some ⟨g15, 0, none⟩) 16 16] 22) := ⟨_, rfl⟩
         obtain ⟨g16, hg16⟩ : ∃ z, z = y6.heap.size := ⟨_, rfl⟩
         have D7 := Lib.hid (show Below y6.heap.size y6 y7 from by rw [hy7]; exact below_new _ _)
         have B7 := Lib.hid (below_call B6.out D7.out)
         have S7 := Lib.hid (Same.of D7.out)
         have P16 := Lib.hid (show y7.cell? ⟨g16, 0, none⟩ = _ ∧ y7.cell? ⟨g16, 1, none⟩ = _ ∧ y7.cell? ⟨g16, 2, none⟩ = _ from by rw [hy7, hg16]; exact three_cells _ _ _ _)
         rw [← hg16, ← hy7]
         clear hy7 hg16
         refine hK.out _ _ ?_ (fun hHeld => ?_)
         ·exact HC.out _ B7.out
         clear hK K
         (try simp only [Act.put, List.setIfInBounds_toArray, List.set_cons_zero, List.set_cons_succ])
         refine wpAnyH_ready (rs := [17]) (by kernel_rfl) (by simp) ?_
         refine AllReadyH.cons (o := qo17) rfl (fun K hK => ?_) ?_
         ·unfold qo17; go_simp
          refine (join8 p k o n _ g16 y7.heap.size g0 g9 g15 rfl P16.out (L0.out.keep (((((S2.out.trans S3.out).trans S4.out).trans S5.out).trans S6.out).trans S7.out).cell) (L9.out.keep ((S5.out.trans S6.out).trans S7.out).cell) (L15.out.keep S7.out.cell)).mono ?_
          rintro e y8 ⟨rfl, o8, b8, z8⟩
          have B8 := Lib.hid (below_call B7.out b8)
          have Z := Lib.hid (show _ ∧ _ ∧ w1.heap.size ≤ y7.heap.size from And.intro o8 (And.intro z8 B7.out.size))
          clear o8 z8 b8
          generalize y7.heap.size = gf at *
          go_wp2_with fail
          refine hK.out _ _ ?_ (fun hHeld => ?_)
          ·exact HC.out _ B8.out
          clear hK K
          (try simp only [Act.put, List.setIfInBounds_toArray, List.set_cons_zero, List.set_cons_succ])
          refine wpAnyH_take (i := 18) (oi := qo18) (v := ?_) rfl (by kernel_rfl) (by kernel_rfl) (by kernel_rfl) (fun _ _ _ h => h) (Or.inl ⟨by rfl, ?_⟩) (by assumption) ?_
          rotate_left
          ·(intro w hSw; (try dsimp only at hSw); unfold qo18; go_simp) <;> with_reducible rfl
          unfold qo18; (try simp only [Act.put, List.setIfInBounds_toArray, List.set_cons_zero, List.set_cons_succ])
          refine wpAnyH_done (by kernel_rfl) ?_ _
          refine NoPanic.normal ?_
          go_wp2_with fail
          go_ret
          exact ⟨gf, rfl, fin8 BB.out.1 B8.out Z.out⟩
         exact AllReadyH.nil
        exact AllReadyH.nil
       exact AllReadyH.nil
      refine AllReadyH.cons (o := qo15) rfl (fun K hK => ?_) ?_
      ·unfold qo15; go_simp
       refine (bytes_two 8 16 (by omega) rfl (o : Int) (n : Int) o n g14 rfl rfl HX.out.2.2.2.2.1 HX.out.2.2.2.2.2 _ (S4.out.some P14.out.1) (S4.out.some P14.out.2)).mono ?_
       rintro e y5 ⟨g15, rfl, l15, b5⟩
       have L15 := Lib.hid l15
       have D5 := Lib.hid b5
       have B5 := Lib.hid (below_call B4.out b5)
       have S5 := Lib.hid (Same.of b5)
       clear l15 b5
       go_wp2_with fail
       refine hK.out _ _ ?_ (fun hHeld => ?_)
       ·exact HC.out _ B5.out
       clear hK K
       (try simp only [Act.put, List.setIfInBounds_toArray, List.set_cons_zero, List.set_cons_succ])
       refine wpAnyH_ready (rs := [1]) (by kernel_rfl) (by simp) ?_
       refine AllReadyH.cons (o := qo1) rfl (fun K hK => ?_) ?_
       ·unfold qo1
        obtain ⟨y6, hcv, s6, t6⟩ := conv_mark y5 g0 8 8 _ ((D5.out.block g0 (by have := K0s.out; have := D2.out.size; have := D3.out.size; have := D4.out.size; omega)).trans ((D4.out.block g0 (by have := K0s.out; have := D2.out.size; have := D3.out.size; omega)).trans ((D3.out.block g0 (by have := K0s.out; have := D2.out.size; omega)).trans ((D2.out.block g0 (by have := K0s.out; omega)).trans K0.out))))
        have S6 := Lib.hid s6
        have B6 := Lib.hid (t6 _ _ B5.out K0s.out.2)
        clear s6 t6
        go_simp
        clear hcv
        refine hK.out _ _ ?_ (fun hHeld => ?_)
        ·exact HC.out _ B6.out
        clear hK K
        (try simp only [Act.put, List.setIfInBounds_toArray, List.set_cons_zero, List.set_cons_succ])
        refine wpAnyH_ready (rs := [16]) (by kernel_rfl) (by simp) ?_
        refine AllReadyH.cons (o := qo16) rfl (fun K hK => ?_) ?_
        ·unfold qo16; go_simp
         obtain ⟨y7, hy7⟩ : ∃ z, z = y6.alloc (.cells #[.slice (some ⟨g0, 0, none⟩) 8 8, .slice (some ⟨g9, 0, none⟩) 8 8, .slice (some ⟨g15, 0, none⟩) 16 16] 22) := ⟨_, rfl⟩
         obtain ⟨g16, hg16⟩ : ∃ z, z = y6.heap.size := ⟨_, rfl⟩
         have D7 := Lib.hid (show Below y6.heap.size y6 y7 from by rw [hy7]; exact below_new _ _)
         have B7 := Lib.hid (below_call B6.out D7.out)
         have S7 := Lib.hid (Same.of D7.out)
         have P16 := Lib.hid (show y7.cell? ⟨g16, 0, none⟩ = _ ∧ y7.cell? ⟨g16, 1, none⟩ = _ ∧ y7.cell? ⟨g16, 2, none⟩ = _ from by rw [hy7, hg16]; exact three_cells _ _ _ _)
         rw [← hg16, ← hy7]
         clear hy7 hg16
         refine hK.out _ _ ?_ (fun hHeld => ?_)
         ·exact HC.out _ B7.out
         clear hK K
         (try simp only [Act.put, List.setIfInBounds_toArray, List.set_cons_zero, List.set_cons_succ])
         refine wpAnyH_ready (rs := [17]) (by kernel_rfl) (by simp) ?_
         refine AllReadyH.cons (o := qo17) rfl (fun K hK => ?_) ?_
         ·unfold qo17; go_simp
          refine (join8 p k o n _ g16 y7.heap.size g0 g9 g15 rfl P16.out (L0.out.keep (((((S2.out.trans S3.out).trans S4.out).trans S5.out).trans S6.out).trans S7.out).cell) (L9.out.keep ((S5.out.trans S6.out).trans S7.out).cell) (L15.out.keep (S6.out.trans S7.out).cell)).mono ?_
          rintro e y8 ⟨rfl, o8, b8, z8⟩
          have B8 := Lib.hid (below_call B7.out b8)
          have Z := Lib.hid (show _ ∧ _ ∧ w1.heap.size ≤ y7.heap.size from And.intro o8 (And.intro z8 B7.out.size))
          clear o8 z8 b8
          generalize y7.heap.size = gf at *
          go_wp2_with fail
          refine hK.out _ _ ?_ (fun hHeld => ?_)
          ·exact HC.out _ B8.out
          clear hK K
          (try simp only [Act.put, List.setIfInBounds_toArray, List.set_cons_zero, List.set_cons_succ])
          refine wpAnyH_take (i := 18) (oi := qo18) (v := ?_) rfl (by kernel_rfl) (by kernel_rfl) (by kernel_rfl) (fun _ _ _ h => h) (Or.inl ⟨by rfl, ?_⟩) (by assumption) ?_
          rotate_left
          ·(intro w hSw; (try dsimp only at hSw); unfold qo18; go_simp) <;> with_reducible rfl
          unfold qo18; (try simp only [Act.put, List.setIfInBounds_toArray, List.set_cons_zero, List.set_cons_succ])
          refine wpAnyH_done (by kernel_rfl) ?_ _
          refine NoPanic.normal ?_
          go_wp2_with fail
          go_ret
          exact ⟨gf, rfl, fin8 BB.out.1 B8.out Z.out⟩
         exact AllReadyH.nil
        exact AllReadyH.nil
       exact AllReadyH.nil
      exact AllReadyH.nil
     exact AllReadyH.nil
    exact AllReadyH.nil
   refine AllReadyH.cons (o := qo14) rfl (fun K hK => ?_) ?_
   ·unfold qo14; go_simp
    obtain ⟨y2, hy2⟩ : ∃ z, z = y1.alloc (.cells #[.int .u64 (o : Int), .int .u64 (n : Int)] 28) := ⟨_, rfl⟩
    obtain ⟨g14, hg14⟩ : ∃ z, z = y1.heap.size := ⟨_, rfl⟩
    have D2 := Lib.hid (show Below y1.heap.size y1 y2 from by rw [hy2]; exact below_new _ _)
    have B2 := Lib.hid (below_call B1.out D2.out)
    have S2 := Lib.hid (Same.of D2.out)
    have P14 := Lib.hid (show y2.cell? ⟨g14, 0, none⟩ = _ ∧ y2.cell? ⟨g14, 1, none⟩ = _ from by rw [hy2, hg14]; exact pair_cells _ _ _)
    rw [← hg14, ← hy2]
    clear hy2 hg14
    refine hK.out _ _ ?_ (fun hHeld => ?_)
    ·exact HC.out _ B2.out
    clear hK K
    (try simp only [Act.put, List.setIfInBounds_toArray, List.set_cons_zero, List.set_cons_succ])
    refine wpAnyH_ready (rs := [1, 8]) (by kernel_rfl) (by simp) ?_
    refine AllReadyH.cons (o := qo1) rfl (fun K hK => ?_) ?_
    ·unfold qo1
     obtain ⟨y3, hcv, s3, t3⟩ := conv_mark y2 g0 8 8 _ ((D2.out.block g0 (by have := K0s.out; omega)).trans K0.out)
     have S3 := Lib.hid s3
     have B3 := Lib.hid (t3 _ _ B2.out K0s.out.2)
     clear s3 t3
     go_simp
     clear hcv
     refine hK.out _ _ ?_ (fun hHeld => ?_)
     ·exact HC.out _ B3.out
     clear hK K
     (try simp only [Act.put, List.setIfInBounds_toArray, List.set_cons_zero, List.set_cons_succ])
     refine wpAnyH_ready (rs := [8]) (by kernel_rfl) (by simp) ?_
     refine AllReadyH.cons (o := qo8) rfl (fun K hK => ?_) ?_
     ·unfold qo8; go_simp
      obtain ⟨y4, hy4⟩ : ∃ z, z = y3.alloc (.cells #[.int .u64 x, .int .u64 y] 28) := ⟨_, rfl⟩
      obtain ⟨g8, hg8⟩ : ∃ z, z = y3.heap.size := ⟨_, rfl⟩
      have D4 := Lib.hid (show Below y3.heap.size y3 y4 from by rw [hy4]; exact below_new _ _)
      have B4 := Lib.hid (below_call B3.out D4.out)
      have S4 := Lib.hid (Same.of D4.out)
      have P8 := Lib.hid (show y4.cell? ⟨g8, 0, none⟩ = _ ∧ y4.cell? ⟨g8, 1, none⟩ = _ from by rw [hy4, hg8]; exact pair_cells _ _ _)
      rw [← hg8, ← hy4]
      clear hy4 hg8
      refine hK.out _ _ ?_ (fun hHeld => ?_)
      ·exact HC.out _ B4.out
      clear hK K
      (try simp only [Act.put, List.setIfInBounds_toArray, List.set_cons_zero, List.set_cons_succ])
      refine wpAnyH_ready (rs := [9]) (by kernel_rfl) (by simp) ?_
      refine AllReadyH.cons (o := qo9) rfl (fun K hK => ?_) ?_
      ·unfold qo9; go_simp
       refine (bytes_two 4 8 (by omega) rfl x y p k g8 HX.out.1 HX.out.2.1 (by have := HX.out; omega) (by have := HX.out; omega) _ ((Same.refl _).some P8.out.1) ((Same.refl _).some P8.out.2)).mono ?_
       rintro e y5 ⟨g9, rfl, l9, b5⟩
       have L9 := Lib.hid l9
       have D5 := Lib.hid b5
       have B5 := Lib.hid (below_call B4.out b5)
       have S5 := Lib.hid (Same.of b5)
       clear l9 b5
       go_wp2_with fail
       refine hK.out _ _ ?_ (fun hHeld => ?_)
       ·exact HC.out _ B5.out
       clear hK K
       (try simp only [Act.put, List.setIfInBounds_toArray, List.set_cons_zero, List.set_cons_succ])
       refine wpAnyH_ready (rs := [15]) (by kernel_rfl) (by simp) ?_
       refine AllReadyH.cons (o := qo15) rfl (fun K hK => ?_) ?_
       ·unfold qo15; go_simp
        refine (bytes_two 8 16 (by omega) rfl (o : Int) (n : Int) o n g14 rfl rfl HX.out.2.2.2.2.1 HX.out.2.2.2.2.2 _ (((S3.out.trans S4.out).trans S5.out).some P14.out.1) (((S3.out.trans S4.out).trans S5.out).some P14.out.2)).mono ?_
        rintro e y6 ⟨g15, rfl, l15, b6⟩
        have L15 := Lib.hid l15
        have D6 := Lib.hid b6
        have B6 := Lib.hid (below_call B5.out b6)
        have S6 := Lib.hid (Same.of b6)
        clear l15 b6
        go_wp2_with fail
        refine hK.out _ _ ?_ (fun hHeld => ?_)
        ·exact HC.out _ B6.out
        clear hK K
        (try simp only [Act.put, List.setIfInBounds_toArray, List.set_cons_zero, List.set_cons_succ])
        refine wpAnyH_ready (rs := [16]) (by kernel_rfl) (by simp) ?_
        refine AllReadyH.cons (o := qo16) rfl (fun K hK => ?_) ?_
        ·unfold qo16; go_simp
         obtain ⟨y7, hy7⟩ : ∃ z, z = y6.alloc (.cells #[.slice (some ⟨g0, 0, none⟩) 8 8, .slice (some ⟨g9, 0, none⟩) 8 8, .slice (some ⟨g15, 0, none⟩) 16 16] 22) := ⟨_, rfl⟩
         obtain ⟨g16, hg16⟩ : ∃ z, z = y6.heap.size := ⟨_, rfl⟩
         have D7 := Lib.hid (show Below y6.heap.size y6 y7 from by rw [hy7]; exact below_new _ _)
         have B7 := Lib.hid (below_call B6.out D7.out)
         have S7 := Lib.hid (Same.of D7.out)
         have P16 := Lib.hid (show y7.cell? ⟨g16, 0, none⟩ = _ ∧ y7.cell? ⟨g16, 1, none⟩ = _ ∧ y7.cell? ⟨g16, 2, none⟩ = _ from by rw [hy7, hg16]; exact three_cells _ _ _ _)
         rw [← hg16, ← hy7]
         clear hy7 hg16
         refine hK.out _ _ ?_ (fun hHeld => ?_)
         ·exact HC.out _ B7.out
         clear hK K
         (try simp only [Act.put, List.setIfInBounds_toArray, List.set_cons_zero, List.set_cons_succ])
         refine wpAnyH_ready (rs := [17]) (by kernel_rfl) (by simp) ?_
         refine AllReadyH.cons (o := qo17) rfl (fun K hK => ?_) ?_
         ·unfold qo17; go_simp
          refine (join8 p k o n _ g16 y7.heap.size g0 g9 g15 rfl P16.out (L0.out.keep (((((S2.out.trans S3.out).trans S4.out).trans S5.out).trans S6.out).trans S7.out).cell) (L9.out.keep (S6.out.trans S7.out).cell) (L15.out.keep S7.out.cell)).mono ?_
          rintro e y8 ⟨rfl, o8, b8, z8⟩
          have B8 := Lib.hid (below_call B7.out b8)
          have Z := Lib.hid (show _ ∧ _ ∧ w1.heap.size ≤ y7.heap.size from And.intro o8 (And.intro z8 B7.out.size))
          clear o8 z8 b8
          generalize y7.heap.size = gf at *
          go_wp2_with fail
          refine hK.out _ _ ?_ (fun hHeld => ?_)
          ·exact HC.out _ B8.out
          clear hK K
          (try simp only [Act.put, List.setIfInBounds_toArray, List.set_cons_zero, List.set_cons_succ])
          refine wpAnyH_take (i := 18) (oi := qo18) (v := ?_) rfl (by kernel_rfl) (by kernel_rfl) (by kernel_rfl) (fun _ _ _ h => h) (Or.inl ⟨by rfl, ?_⟩) (by assumption) ?_
          rotate_left
          ·(intro w hSw; (try dsimp only at hSw); unfold qo18; go_simp) <;> with_reducible rfl
          unfold qo18; (try simp only [Act.put, List.setIfInBounds_toArray, List.set_cons_zero, List.set_cons_succ])
          refine wpAnyH_done (by kernel_rfl) ?_ _
          refine NoPanic.normal ?_
          go_wp2_with fail
          go_ret
          exact ⟨gf, rfl, fin8 BB.out.1 B8.out Z.out⟩
         exact AllReadyH.nil
        exact AllReadyH.nil
       exact AllReadyH.nil
      exact AllReadyH.nil
     exact AllReadyH.nil
    refine AllReadyH.cons (o := qo8) rfl (fun K hK => ?_) ?_
    ·unfold qo8; go_simp
     obtain ⟨y3, hy3⟩ : ∃ z, z = y2.alloc (.cells #[.int .u64 x, .int .u64 y] 28) := ⟨_, rfl⟩
     obtain ⟨g8, hg8⟩ : ∃ z, z = y2.heap.size := ⟨_, rfl⟩
     have D3 := Lib.hid (show Below y2.heap.size y2 y3 from by rw [hy3]; exact below_new _ _)
     have B3 := Lib.hid (below_call B2.out D3.out)
     have S3 := Lib.hid (Same.of D3.out)
     have P8 := Lib.hid (show y3.cell? ⟨g8, 0, none⟩ = _ ∧ y3.cell? ⟨g8, 1, none⟩ = _ from by rw [hy3, hg8]; exact pair_cells _ _ _)
     rw [← hg8, ← hy3]
     clear hy3 hg8
     refine hK.out _ _ ?_ (fun hHeld => ?_)
     ·exact HC.out _ B3.out
     clear hK K
     (try simp only [Act.put, List.setIfInBounds_toArray, List.set_cons_zero, List.set_cons_succ])
     refine wpAnyH_ready (rs := [1, 9]) (by kernel_rfl) (by simp) ?_
     refine AllReadyH.cons (o := qo1) rfl (fun K hK => ?_) ?_
     ·unfold qo1
      obtain ⟨y4, hcv, s4, t4⟩ := conv_mark y3 g0 8 8 _ ((D3.out.block g0 (by have := K0s.out; have := D2.out.size; omega)).trans ((D2.out.block g0 (by have := K0s.out; omega)).trans K0.out))
      have S4 := Lib.hid s4
      have B4 := Lib.hid (t4 _ _ B3.out K0s.out.2)
      clear s4 t4
      go_simp
      clear hcv
      refine hK.out _ _ ?_ (fun hHeld => ?_)
      ·exact HC.out _ B4.out
      clear hK K
      (try simp only [Act.put, List.setIfInBounds_toArray, List.set_cons_zero, List.set_cons_succ])
      refine wpAnyH_ready (rs := [9]) (by kernel_rfl) (by simp) ?_
      refine AllReadyH.cons (o := qo9) rfl (fun K hK => ?_) ?_
      ·unfold qo9; go_simp
       refine (bytes_two 4 8 (by omega) rfl x y p k g8 HX.out.1 HX.out.2.1 (by have := HX.out; omega) (by have := HX.out; omega) _ (S4.out.some P8.out.1) (S4.out.some P8.out.2)).mono ?_
       rintro e y5 ⟨g9, rfl, l9, b5⟩
       have L9 := Lib.hid l9
       have D5 := Lib.hid b5
       have B5 := Lib.hid (below_call B4.out b5)
       have S5 := Lib.hid (Same.of b5)
       clear l9 b5
       go_wp2_with fail
       refine hK.out _ _ ?_ (fun hHeld => ?_)
       ·exact HC.out _ B5.out
       clear hK K
       (try simp only [Act.put, List.setIfInBounds_toArray, List.set_cons_zero, List.set_cons_succ])
       refine wpAnyH_ready (rs := [15]) (by kernel_rfl) (by simp) ?_
       refine AllReadyH.cons (o := qo15) rfl (fun K hK => ?_) ?_
       ·unfold qo15; go_simp
        refine (bytes_two 8 16 (by omega) rfl (o : Int) (n : Int) o n g14 rfl rfl HX.out.2.2.2.2.1 HX.out.2.2.2.2.2 _ (((S3.out.trans S4.out).trans S5.out).some P14.out.1) (((S3.out.trans S4.out).trans S5.out).some P14.out.2)).mono ?_
        rintro e y6 ⟨g15, rfl, l15, b6⟩
        have L15 := Lib.hid l15
        have D6 := Lib.hid b6
        have B6 := Lib.hid (below_call B5.out b6)
        have S6 := Lib.hid (Same.of b6)
        clear l15 b6
        go_wp2_with fail
        refine hK.out _ _ ?_ (fun hHeld => ?_)
        ·exact HC.out _ B6.out
        clear hK K
        (try simp only [Act.put, List.setIfInBounds_toArray, List.set_cons_zero, List.set_cons_succ])
        refine wpAnyH_ready (rs := [16]) (by kernel_rfl) (by simp) ?_
        refine AllReadyH.cons (o := qo16) rfl (fun K hK => ?_) ?_
        ·unfold qo16; go_simp
         obtain ⟨y7, hy7⟩ : ∃ z, z = y6.alloc (.cells #[.slice (some ⟨g0, 0, none⟩) 8 8, .slice (some ⟨g9, 0, none⟩) 8 8, .slice (some ⟨g15, 0, none⟩) 16 16] 22) := ⟨_, rfl⟩
         obtain ⟨g16, hg16⟩ : ∃ z, z = y6.heap.size := ⟨_, rfl⟩
         have D7 := Lib.hid (show Below y6.heap.size y6 y7 from by rw [hy7]; exact below_new _ _)
         have B7 := Lib.hid (below_call B6.out D7.out)
         have S7 := Lib.hid (Same.of D7.out)
         have P16 := Lib.hid (show y7.cell? ⟨g16, 0, none⟩ = _ ∧ y7.cell? ⟨g16, 1, none⟩ = _ ∧ y7.cell? ⟨g16, 2, none⟩ = _ from by rw [hy7, hg16]; exact three_cells _ _ _ _)
         rw [← hg16, ← hy7]
         clear hy7 hg16
         refine hK.out _ _ ?_ (fun hHeld => ?_)
         ·exact HC.out _ B7.out
         clear hK K
         (try simp only [Act.put, List.setIfInBounds_toArray, List.set_cons_zero, List.set_cons_succ])
         refine wpAnyH_ready (rs := [17]) (by kernel_rfl) (by simp) ?_
         refine AllReadyH.cons (o := qo17) rfl (fun K hK => ?_) ?_
         ·unfold qo17; go_simp
          refine (join8 p k o n _ g16 y7.heap.size g0 g9 g15 rfl P16.out (L0.out.keep (((((S2.out.trans S3.out).trans S4.out).trans S5.out).trans S6.out).trans S7.out).cell) (L9.out.keep (S6.out.trans S7.out).cell) (L15.out.keep S7.out.cell)).mono ?_
          rintro e y8 ⟨rfl, o8, b8, z8⟩
          have B8 := Lib.hid (below_call B7.out b8)
          have Z := Lib.hid (show _ ∧ _ ∧ w1.heap.size ≤ y7.heap.size from And.intro o8 (And.intro z8 B7.out.size))
          clear o8 z8 b8
          generalize y7.heap.size = gf at *
          go_wp2_with fail
          refine hK.out _ _ ?_ (fun hHeld => ?_)
          ·exact HC.out _ B8.out
          clear hK K
          (try simp only [Act.put, List.setIfInBounds_toArray, List.set_cons_zero, List.set_cons_succ])
          refine wpAnyH_take (i := 18) (oi := qo18) (v := ?_) rfl (by kernel_rfl) (by kernel_rfl) (by kernel_rfl) (fun _ _ _ h => h) (Or.inl ⟨by rfl, ?_⟩) (by assumption) ?_
          rotate_left
          ·(intro w hSw; (try dsimp only at hSw); unfold qo18; go_simp) <;> with_reducible rfl
          unfold qo18; (try simp only [Act.put, List.setIfInBounds_toArray, List.set_cons_zero, List.set_cons_succ])
          refine wpAnyH_done (by kernel_rfl) ?_ _
          refine NoPanic.normal ?_
          go_wp2_with fail
          go_ret
          exact ⟨gf, rfl, fin8 BB.out.1 B8.out Z.out⟩
         exact AllReadyH.nil
        exact AllReadyH.nil
       exact AllReadyH.nil
      exact AllReadyH.nil
     refine AllReadyH.cons (o := qo9) rfl (fun K hK => ?_) ?_
     ·unfold qo9; go_simp
      refine (bytes_two 4 8 (by omega) rfl x y p k g8 HX.out.1 HX.out.2.1 (by have := HX.out; omega) (by have := HX.out; omega) _ ((Same.refl _).some P8.out.1) ((Same.refl _).some P8.out.2)).mono ?_
      rintro e y4 ⟨g9, rfl, l9, b4⟩
      have L9 := Lib.hid l9
      have D4 := Lib.hid b4
      have B4 := Lib.hid (below_call B3.out b4)
      have S4 := Lib.hid (Same.of b4)
      clear l9 b4
      go_wp2_with fail
      refine hK.out _ _ ?_ (fun hHeld => ?_)
      ·exact HC.out _ B4.out
      clear hK K
      (try simp only [Act.put, List.setIfInBounds_toArray, List.set_cons_zero, List.set_cons_succ])
      refine wpAnyH_ready (rs := [1, 15]) (by kernel_rfl) (by simp) ?_
      refine AllReadyH.cons (o := qo1) rfl (fun K hK => ?_) ?_
      ·unfold qo1
       obtain ⟨y5, hcv, s5, t5⟩ := conv_mark y4 g0 8 8 _ ((D4.out.block g0 (by have := K0s.out; have := D2.out.size; have := D3.out.size; omega)).trans ((D3.out.block g0 (by have := K0s.out; have := D2.out.size; omega)).trans ((D2.out.block g0 (by have := K0s.out; omega)).trans K0.out)))
       have S5 := Lib.hid s5
       have B5 := Lib.hid (t5 _ _ B4.out K0s.out.2)
       clear s5 t5
       go_simp
       clear hcv
       refine hK.out _ _ ?_ (fun hHeld => ?_)
       ·exact HC.out _ B5.out
       clear hK K
       (try simp only [Act.put, List.setIfInBounds_toArray, List.set_cons_zero, List.set_cons_succ])
       refine wpAnyH_ready (rs := [15]) (by kernel_rfl) (by simp) ?_
       refine AllReadyH.cons (o := qo15) rfl (fun K hK => ?_) ?_
       ·unfold qo15; go_simp
        refine (bytes_two 8 16 (by omega) rfl (o : Int) (n : Int) o n g14 rfl rfl HX.out.2.2.2.2.1 HX.out.2.2.2.2.2 _ (((S3.out.trans S4.out).trans S5.out).some P14.out.1) (((S3.out.trans S4.out).trans S5.out).some P14.out.2)).mono ?_
        rintro e y6 ⟨g15, rfl, l15, b6⟩
        have L15 := Lib.hid l15
        have D6 := Lib.hid b6
        have B6 := Lib.hid (below_call B5.out b6)
        have S6 := Lib.hid (Same.of b6)
        clear l15 b6
        go_wp2_with fail
        refine hK.out _ _ ?_ (fun hHeld => ?_)
        ·exact HC.out _ B6.out
        clear hK K
        (try simp only [Act.put, List.setIfInBounds_toArray, List.set_cons_zero, List.set_cons_succ])
        refine wpAnyH_ready (rs := [16]) (by kernel_rfl) (by simp) ?_
        refine AllReadyH.cons (o := qo16) rfl (fun K hK => ?_) ?_
        ·unfold qo16; go_simp
         obtain ⟨y7, hy7⟩ : ∃ z, z = y6.alloc (.cells #[.slice (some ⟨g0, 0, none⟩) 8 8, .slice (some ⟨g9, 0, none⟩) 8 8, .slice (some ⟨g15, 0, none⟩) 16 16] 22) := ⟨_, rfl⟩
         obtain ⟨g16, hg16⟩ : ∃ z, z = y6.heap.size := ⟨_, rfl⟩
         have D7 := Lib.hid (show Below y6.heap.size y6 y7 from by rw [hy7]; exact below_new _ _)
         have B7 := Lib.hid (below_call B6.out D7.out)
         have S7 := Lib.hid (Same.of D7.out)
         have P16 := Lib.hid (show y7.cell? ⟨g16, 0, none⟩ = _ ∧ y7.cell? ⟨g16, 1, none⟩ = _ ∧ y7.cell? ⟨g16, 2, none⟩ = _ from by rw [hy7, hg16]; exact three_cells _ _ _ _)
         rw [← hg16, ← hy7]
         clear hy7 hg16
         refine hK.out _ _ ?_ (fun hHeld => ?_)
         ·exact HC.out _ B7.out
         clear hK K
         (try simp only [Act.put, List.setIfInBounds_toArray, List.set_cons_zero, List.set_cons_succ])
         refine wpAnyH_ready (rs := [17]) (by kernel_rfl) (by simp) ?_
         refine AllReadyH.cons (o := qo17) rfl (fun K hK => ?_) ?_
         ·unfold qo17; go_simp
          refine (join8 p k o n _ g16 y7.heap.size g0 g9 g15 rfl P16.out (L0.out.keep (((((S2.out.trans S3.out).trans S4.out).trans S5.out).trans S6.out).trans S7.out).cell) (L9.out.keep ((S5.out.trans S6.out).trans S7.out).cell) (L15.out.keep S7.out.cell)).mono ?_
          rintro e y8 ⟨rfl, o8, b8, z8⟩
          have B8 := Lib.hid (below_call B7.out b8)
          have Z := Lib.hid (show _ ∧ _ ∧ w1.heap.size ≤ y7.heap.size from And.intro o8 (And.intro z8 B7.out.size))
          clear o8 z8 b8
          generalize y7.heap.size = gf at *
          go_wp2_with fail
          refine hK.out _ _ ?_ (fun hHeld => ?_)
          ·exact HC.out _ B8.out
          clear hK K
          (try simp only [Act.put, List.setIfInBounds_toArray, List.set_cons_zero, List.set_cons_succ])
          refine wpAnyH_take (i := 18) (oi := qo18) (v := ?_) rfl (by kernel_rfl) (by kernel_rfl) (by kernel_rfl) (fun _ _ _ h => h) (Or.inl ⟨by rfl, ?_⟩) (by assumption) ?_
          rotate_left
          ·(intro w hSw; (try dsimp only at hSw); unfold qo18; go_simp) <;> with_reducible rfl
          unfold qo18; (try simp only [Act.put, List.setIfInBounds_toArray, List.set_cons_zero, List.set_cons_succ])
          refine wpAnyH_done (by kernel_rfl) ?_ _
          refine NoPanic.normal ?_
          go_wp2_with fail
          go_ret
          exact ⟨gf, rfl, fin8 BB.out.1 B8.out Z.out⟩
         exact AllReadyH.nil
        exact AllReadyH.nil
       exact AllReadyH.nil
      refine AllReadyH.cons (o := qo15) rfl (fun K hK => ?_) ?_
      ·unfold qo15; go_simp
       refine (bytes_two 8 16 (by omega) rfl (o : Int) (n : Int) o n g14 rfl rfl HX.out.2.2.2.2.1 HX.out.2.2.2.2.2 _ ((S3.out.trans S4.out).some P14.out.1) ((S3.out.trans S4.out).some P14.out.2)).mono ?_
       rintro e y5 ⟨g15, rfl, l15, b5⟩
       have L15 := Lib.hid l15
       have D5 := Lib.hid b5
       have B5 := Lib.hid (below_call B4.out b5)
       have S5 := Lib.hid (Same.of b5)
       clear l15 b5
       go_wp2_with fail
       refine hK.out _ _ ?_ (fun hHeld => ?_)
       ·exact HC.out _ B5.out
       clear hK K
       (try simp only [Act.put, List.setIfInBounds_toArray, List.set_cons_zero, List.set_cons_succ])
       refine wpAnyH_ready (rs := [1]) (by kernel_rfl) (by simp) ?_
       refine AllReadyH.cons (o := qo1) rfl (fun K hK => ?_) ?_
       ·unfold qo1
        obtain ⟨y6, hcv, s6, t6⟩ := conv_mark y5 g0 8 8 _ ((D5.out.block g0 (by have := K0s.out; have := D2.out.size; have := D3.out.size; have := D4.out.size; omega)).trans ((D4.out.block g0 (by have := K0s.out; have := D2.out.size; have := D3.out.size; omega)).trans ((D3.out.block g0 (by have := K0s.out; have := D2.out.size; omega)).trans ((D2.out.block g0 (by have := K0s.out; omega)).trans K0.out))))
        have S6 := Lib.hid s6
        have B6 := Lib.hid (t6 _ _ B5.out K0s.out.2)
        clear s6 t6
        go_simp
        clear hcv
        refine hK.out _ _ ?_ (fun hHeld => ?_)
        ·exact HC.out _ B6.out
        clear hK K
        (try simp only [Act.put, List.setIfInBounds_toArray, List.set_cons_zero, List.set_cons_succ])
        refine wpAnyH_ready (rs := [16]) (by kernel_rfl) (by simp) ?_
        refine AllReadyH.cons (o := qo16) rfl (fun K hK => ?_) ?_
        ·unfold qo16; go_simp
         obtain ⟨y7, hy7⟩ : ∃ z, z = y6.alloc (.cells #[.slice (some ⟨g0, 0, none⟩) 8 8, .slice (some ⟨g9, 0, none⟩) 8 8, .slice (some ⟨g15, 0, none⟩) 16 16] 22) := ⟨_, rfl⟩
         obtain ⟨g16, hg16⟩ : ∃ z, z = y6.heap.size := ⟨_, rfl⟩
         have D7 := Lib.hid (show Below y6.heap.size y6 y7 from by rw [hy7]; exact below_new _ _)
         have B7 := Lib.hid (below_call B6.out D7.out)
         have S7 := Lib.hid (Same.of D7.out)
         have P16 := Lib.hid (show y7.cell? ⟨g16, 0, none⟩ = _ ∧ y7.cell? ⟨g16, 1, none⟩ = _ ∧ y7.cell? ⟨g16, 2, none⟩ = _ from by rw [hy7, hg16]; exact three_cells _ _ _ _)
         rw [← hg16, ← hy7]
         clear hy7 hg16
         refine hK.out _ _ ?_ (fun hHeld => ?_)
         ·exact HC.out _ B7.out
         clear hK K
         (try simp only [Act.put, List.setIfInBounds_toArray, List.set_cons_zero, List.set_cons_succ])
         refine wpAnyH_ready (rs := [17]) (by kernel_rfl) (by simp) ?_
         refine AllReadyH.cons (o := qo17) rfl (fun K hK => ?_) ?_
         ·unfold qo17; go_simp
          refine (join8 p k o n _ g16 y7.heap.size g0 g9 g15 rfl P16.out (L0.out.keep (((((S2.out.trans S3.out).trans S4.out).trans S5.out).trans S6.out).trans S7.out).cell) (L9.out.keep ((S5.out.trans S6.out).trans S7.out).cell) (L15.out.keep (S6.out.trans S7.out).cell)).mono ?_
          rintro e y8 ⟨rfl, o8, b8, z8⟩
          have B8 := Lib.hid (below_call B7.out b8)
          have Z := Lib.hid (show _ ∧ _ ∧ w1.heap.size ≤ y7.heap.size from And.intro o8 (And.intro z8 B7.out.size))
          clear o8 z8 b8
          generalize y7.heap.size = gf at *
          go_wp2_with fail
          refine hK.out _ _ ?_ (fun hHeld => ?_)
          ·exact HC.out _ B8.out
          clear hK K
          (try simp only [Act.put, List.setIfInBounds_toArray, List.set_cons_zero, List.set_cons_succ])
          refine wpAnyH_take (i := 18) (oi := qo18) (v := ?_) rfl (by kernel_rfl) (by kernel_rfl) (by kernel_rfl) (fun _ _ _ h => h) (Or.inl ⟨by rfl, ?_⟩) (by assumption) ?_
          rotate_left
          ·(intro w hSw; (try dsimp only at hSw); unfold qo18; go_simp) <;> with_reducible rfl
          unfold qo18; (try simp only [Act.put, List.setIfInBounds_toArray, List.set_cons_zero, List.set_cons_succ])
          refine wpAnyH_done (by kernel_rfl) ?_ _
          refine NoPanic.normal ?_
          go_wp2_with fail
          go_ret
          exact ⟨gf, rfl, fin8 BB.out.1 B8.out Z.out⟩
         exact AllReadyH.nil
        exact AllReadyH.nil
       exact AllReadyH.nil
      exact AllReadyH.nil
     exact AllReadyH.nil
    exact AllReadyH.nil
   exact AllReadyH.nil
  refine AllReadyH.cons (o := qo8) rfl (fun K hK => ?_) ?_
  ·unfold qo8; go_simp
   obtain ⟨y1, hy1⟩ : ∃ z, z = y0.alloc (.cells #[.int .u64 x, .int .u64 y] 28) := ⟨_, rfl⟩
   obtain ⟨g8, hg8⟩ : ∃ z, z = y0.heap.size := ⟨_, rfl⟩
   have D1 := Lib.hid (show Below y0.heap.size y0 y1 from by rw [hy1]; exact below_new _ _)
   have B1 := Lib.hid (below_call B0.out D1.out)
   have S1 := Lib.hid (Same.of D1.out)
   have P8 := Lib.hid (show y1.cell? ⟨g8, 0, none⟩ = _ ∧ y1.cell? ⟨g8, 1, none⟩ = _ from by rw [hy1, hg8]; exact pair_cells _ _ _)
   rw [← hg8, ← hy1]
   clear hy1 hg8
   refine hK.out _ _ ?_ (fun hHeld => ?_)
   ·exact HC.out _ B1.out
   clear hK K
   (try simp only [Act.put, List.setIfInBounds_toArray, List.set_cons_zero, List.set_cons_succ])
   refine wpAnyH_ready (rs := [0, 9, 14]) (by kernel_rfl) (by simp) ?_
   refine AllReadyH.cons (o := qo0) rfl (fun K hK => ?_) ?_
   ·unfold qo0; go_simp
    obtain ⟨y2, hy2⟩ : ∃ z, z = y1.alloc (.cells #[.int .u8 115, .int .u8 116, .int .u8 101, .int .u8 97, .int .u8 100, .int .u8 105, .int .u8 110, .int .u8 103] 5) := ⟨_, rfl⟩
    obtain ⟨g0, hg0⟩ : ∃ z, z = y1.heap.size := ⟨_, rfl⟩
    have D2 := Lib.hid (show Below y1.heap.size y1 y2 from by rw [hy2]; exact below_new _ _)
    have B2 := Lib.hid (below_call B1.out D2.out)
    have S2 := Lib.hid (Same.of D2.out)
    have L0 := Lib.hid (show Lies y2 (some ⟨g0, 0, none⟩) (u8s M.mark) from by rw [hy2, hg0]; exact mark_lies _)
    have K0 := Lib.hid (show y2.heap[g0]? = some (.cells #[.int .u8 115, .int .u8 116, .int .u8 101, .int .u8 97, .int .u8 100, .int .u8 105, .int .u8 110, .int .u8 103] 5) from by rw [hy2, hg0]; exact at_new_block _ _)
    have K0s := Lib.hid (show g0 < y2.heap.size ∧ w1.heap.size ≤ g0 from ⟨by rw [hy2, hg0]; simp, by rw [hg0]; exact B1.out.size⟩)
    rw [← hg0, ← hy2]
    clear hy2 hg0
    refine hK.out _ _ ?_ (fun hHeld => ?_)
    ·exact HC.out _ B2.out
    clear hK K
    (try simp only [Act.put, List.setIfInBounds_toArray, List.set_cons_zero, List.set_cons_succ])
    refine wpAnyH_ready (rs := [1, 9, 14]) (by kernel_rfl) (by simp) ?_
    refine AllReadyH.cons (o := qo1) rfl (fun K hK => ?_) ?_
    ·unfold qo1
     obtain ⟨y3, hcv, s3, t3⟩ := conv_mark y2 g0 8 8 _ K0.out
     have S3 := Lib.hid s3
     have B3 := Lib.hid (t3 _ _ B2.out K0s.out.2)
     clear s3 t3
     go_simp
     clear hcv
     refine hK.out _ _ ?_ (fun hHeld => ?_)
     ·exact HC.out _ B3.out
     clear hK K
     (try simp only [Act.put, List.setIfInBounds_toArray, List.set_cons_zero, List.set_cons_succ])
     refine wpAnyH_ready (rs := [9, 14]) (by kernel_rfl) (by simp) ?_
     refine AllReadyH.cons (o := qo9) rfl (fun K hK => ?_) ?_
     ·unfold qo9; go_simp
      refine (bytes_two 4 8 (by omega) rfl x y p k g8 HX.out.1 HX.out.2.1 (by have := HX.out; omega) (by have := HX.out; omega) _ ((S2.out.trans S3.out).some P8.out.1) ((S2.out.trans S3.out).some P8.out.2)).mono ?_
      rintro e y4 ⟨g9, rfl, l9, b4⟩
      have L9 := Lib.hid l9
      have D4 := Lib.hid b4
      have B4 := Lib.hid (below_call B3.out b4)
      have S4 := Lib.hid (Same.of b4)
      clear l9 b4
      go_wp2_with fail
      refine hK.out _ _ ?_ (fun hHeld => ?_)
      ·exact HC.out _ B4.out
      clear hK K
      (try simp only [Act.put, List.setIfInBounds_toArray, List.set_cons_zero, List.set_cons_succ])
      refine wpAnyH_ready (rs := [14]) (by kernel_rfl) (by simp) ?_
      refine AllReadyH.cons (o := qo14) rfl (fun K hK => ?_) ?_
      ·unfold qo14; go_simp
       obtain ⟨y5, hy5⟩ : ∃ z, z = y4.alloc (.cells #[.int .u64 (o : Int), .int .u64 (n : Int)] 28) := ⟨_, rfl⟩
       obtain ⟨g14, hg14⟩ : ∃ z, z = y4.heap.size := ⟨_, rfl⟩
       have D5 := Lib.hid (show Below y4.heap.size y4 y5 from by rw [hy5]; exact below_new _ _)
       have B5 := Lib.hid (below_call B4.out D5.out)
       have S5 := Lib.hid (Same.of D5.out)
       have P14 := Lib.hid (show y5.cell? ⟨g14, 0, none⟩ = _ ∧ y5.cell? ⟨g14, 1, none⟩ = _ from by rw [hy5, hg14]; exact pair_cells _ _ _)
       rw [← hg14, ← hy5]
       clear hy5 hg14
       refine hK.out _ _ ?_ (fun hHeld => ?_)
       ·exact HC.out _ B5.out
       clear hK K
       (try simp only [Act.put, List.setIfInBounds_toArray, List.set_cons_zero, List.set_cons_succ])
       refine wpAnyH_ready (rs := [15]) (by kernel_rfl) (by simp) ?_
       refine AllReadyH.cons (o := qo15) rfl (fun K hK => ?_) ?_
       ·unfold qo15; go_simp
        refine (bytes_two 8 16 (by omega) rfl (o : Int) (n : Int) o n g14 rfl rfl HX.out.2.2.2.2.1 HX.out.2.2.2.2.2 _ ((Same.refl _).some P14.out.1) ((Same.refl _).some P14.out.2)).mono ?_
        rintro e y6 ⟨g15, rfl, l15, b6⟩
        have L15 := Lib.hid l15
        have D6 := Lib.hid b6
        have B6 := Lib.hid (below_call B5.out b6)
        have S6 := Lib.hid (Same.of b6)
        clear l15 b6
        go_wp2_with fail
        refine hK.out _ _ ?_ (fun hHeld => ?_)
        ·exact HC.out _ B6.out
        clear hK K
        (try simp only [Act.put, List.setIfInBounds_toArray, List.set_cons_zero, List.set_cons_succ])
        refine wpAnyH_ready (rs := [16]) (by kernel_rfl) (by simp) ?_
        refine AllReadyH.cons (o := qo16) rfl (fun K hK => ?_) ?_
        ·unfold qo16; go_simp
         obtain ⟨y7, hy7⟩ : ∃ z, z = y6.alloc (.cells #[.slice (some ⟨g0, 0, none⟩) 8 8, .slice (some ⟨g9, 0, none⟩) 8 8, .slice (some ⟨g15, 0, none⟩) 16 16] 22) := ⟨_, rfl⟩
         obtain ⟨g16, hg16⟩ : ∃ z, z = y6.heap.size := ⟨_, rfl⟩
         have D7 := Lib.hid (show Below y6.heap.size y6 y7 from by rw [hy7]; exact below_new _ _)
         have B7 := Lib.hid (below_call B6.out D7.out)
         have S7 := Lib.hid (Same.of D7.out)
         have P16 := Lib.hid (show y7.cell? ⟨g16, 0, none⟩ = _ ∧ y7.cell? ⟨g16, 1, none⟩ = _ ∧ y7.cell? ⟨g16, 2, none⟩ = _ from by rw [hy7, hg16]; exact three_cells _ _ _ _)
         rw [← hg16, ← hy7]
         clear hy7 hg16
         refine hK.out _ _ ?_ (fun hHeld => ?_)
         ·exact HC.out _ B7.out
         clear hK K
         (try simp only [Act.put, List.setIfInBounds_toArray, List.set_cons_zero, List.set_cons_succ])
         refine wpAnyH_ready (rs := [17]) (by kernel_rfl) (by simp) ?_
         refine AllReadyH.cons (o := qo17) rfl (fun K hK => ?_) ?_
         ·unfold qo17; go_simp
          refine (join8 p k o n _ g16 y7.heap.size g0 g9 g15 rfl P16.out (L0.out.keep ((((S3.out.trans S4.out).trans S5.out).trans S6.out).trans S7.out).cell) (L9.out.keep ((S5.out.trans S6.out).trans S7.out).cell) (L15.out.keep S7.out.cell)).mono ?_
          rintro e y8 ⟨rfl, o8, b8, z8⟩
          have B8 := Lib.hid (below_call B7.out b8)
          have Z := Lib.hid (show _ ∧ _ ∧ w1.heap.size ≤ y7.heap.size from And.intro o8 (And.intro z8 B7.out.size))
          clear o8 z8 b8
          generalize y7.heap.size = gf at *
          go_wp2_with fail
          refine hK.out _ _ ?_ (fun hHeld => ?_)
          ·exact HC.out _ B8.out
          clear hK K
          (try simp only [Act.put, List.setIfInBounds_toArray, List.set_cons_zero, List.set_cons_succ])
          refine wpAnyH_take (i := 18) (oi := qo18) (v := ?_) rfl (by kernel_rfl) (by kernel_rfl) (by kernel_rfl) (fun _ _ _ h => h) (Or.inl ⟨by rfl, ?_⟩) (by assumption) ?_
          rotate_left
          ·(intro w hSw; (try dsimp only at hSw); unfold qo18; go_simp) <;> with_reducible rfl
          unfold qo18; (try simp only [Act.put, List.setIfInBounds_toArray, List.set_cons_zero, List.set_cons_succ])
          refine wpAnyH_done (by kernel_rfl) ?_ _
          refine NoPanic.normal ?_
          go_wp2_with fail
          go_ret
          exact ⟨gf, rfl, fin8 BB.out.1 B8.out Z.out⟩
         exact AllReadyH.nil
        exact AllReadyH.nil
       exact AllReadyH.nil
      exact AllReadyH.nil
     refine AllReadyH.cons (o := qo14) rfl (fun K hK => ?_) ?_
     ·unfold qo14; go_simp
      obtain ⟨y4, hy4⟩ : ∃ z, z = y3.alloc (.cells #[.int .u64 (o : Int), .int .u64 (n : Int)] 28) := ⟨_, rfl⟩
      obtain ⟨g14, hg14⟩ : ∃ z, z = y3.heap.size := ⟨_, rfl⟩
      have D4 := Lib.hid (show Below y3.heap.size y3 y4 from by rw [hy4]; exact below_new _ _)
      have B4 := Lib.hid (below_call B3.out D4.out)
      have S4 := Lib.hid (Same.of D4.out)
      have P14 := Lib.hid (show y4.cell? ⟨g14, 0, none⟩ = _ ∧ y4.cell? ⟨g14, 1, none⟩ = _ from by rw [hy4, hg14]; exact pair_cells _ _ _)
      rw [← hg14, ← hy4]
      clear hy4 hg14
      refine hK.out _ _ ?_ (fun hHeld => ?_)
      ·exact HC.out _ B4.out
      clear hK K
      (try simp only [Act.put, List.setIfInBounds_toArray, List.set_cons_zero, List.set_cons_succ])
      refine wpAnyH_ready (rs := [9]) (by kernel_rfl) (by simp) ?_
      refine AllReadyH.cons (o := qo9) rfl (fun K hK => ?_) ?_
      ·unfold qo9; go_simp
       refine (bytes_two 4 8 (by omega) rfl x y p k g8 HX.out.1 HX.out.2.1 (by have := HX.out; omega) (by have := HX.out; omega) _ (((S2.out.trans S3.out).trans S4.out).some P8.out.1) (((S2.out.trans S3.out).trans S4.out).some P8.out.2)).mono ?_
       rintro e y5 ⟨g9, rfl, l9, b5⟩
       have L9 := Lib.hid l9
       have D5 := Lib.hid b5
       have B5 := Lib.hid (below_call B4.out b5)
       have S5 := Lib.hid (Same.of b5)
       clear l9 b5
       go_wp2_with fail
       refine hK.out _ _ ?_ (fun hHeld => ?_)
       ·exact HC.out _ B5.out
       clear hK K
       (try simp only [Act.put, List.setIfInBounds_toArray, List.set_cons_zero, List.set_cons_succ])
       refine wpAnyH_ready (rs := [15]) (by kernel_rfl) (by simp) ?_
       refine AllReadyH.cons (o := qo15) rfl (fun K hK => ?_) ?_
       ·unfold qo15; go_simp
        refine (bytes_two 8 16 (by omega) rfl (o : Int) (n : Int) o n g14 rfl rfl HX.out.2.2.2.2.1 HX.out.2.2.2.2.2 _ (S5.out.some P14.out.1) (S5.out.some P14.out.2)).mono ?_
        rintro e y6 ⟨g15, rfl, l15, b6⟩
        have L15 := Lib.hid l15
        have D6 := Lib.hid b6
        have B6 := Lib.hid (below_call B5.out b6)
        have S6 := Lib.hid (Same.of b6)
        clear l15 b6
        go_wp2_with fail
        refine hK.out _ _ ?_ (fun hHeld => ?_)
        ·exact HC.out _ B6.out
        clear hK K
        (try simp only [Act.put, List.setIfInBounds_toArray, List.set_cons_zero, List.set_cons_succ])
        refine wpAnyH_ready (rs := [16]) (by kernel_rfl) (by simp) ?_
        refine AllReadyH.cons (o := qo16) rfl (fun K hK => ?_) ?_
        ·unfold qo16; go_simp
         obtain ⟨y7, hy7⟩ : ∃ z, z = y6.alloc (.cells #[.slice (some ⟨g0, 0, none⟩) 8 8, .slice (some ⟨g9, 0, none⟩) 8 8, .slice (some ⟨g15, 0, none⟩) 16 16] 22) := ⟨_, rfl⟩
         obtain ⟨g16, hg16⟩ : ∃ z, z = y6.heap.size := ⟨_, rfl⟩
         have D7 := Lib.hid (show Below y6.heap.size y6 y7 from by rw [hy7]; exact below_new _ _)
         have B7 := Lib.hid (below_call B6.out D7.out)
         have S7 := Lib.hid (Same.of D7.out)
         have P16 := Lib.hid (show y7.cell? ⟨g16, 0, none⟩ = _ ∧ y7.cell? ⟨g16, 1, none⟩ = _ ∧ y7.cell? ⟨g16, 2, none⟩ = _ from by rw [hy7, hg16]; exact three_cells _ _ _ _)
         rw [← hg16, ← hy7]
         clear hy7 hg16
         refine hK.out _ _ ?_ (fun hHeld => ?_)
         ·exact HC.out _ B7.out
         clear hK K
         (try simp only [Act.put, List.setIfInBounds_toArray, List.set_cons_zero, List.set_cons_succ])
         refine wpAnyH_ready (rs := [17]) (by kernel_rfl) (by simp) ?_
         refine AllReadyH.cons (o := qo17) rfl (fun K hK => ?_) ?_
         ·unfold qo17; go_simp
          refine (join8 p k o n _ g16 y7.heap.size g0 g9 g15 rfl P16.out (L0.out.keep ((((S3.out.trans S4.out).trans S5.out).trans S6.out).trans S7.out).cell) (L9.out.keep (S6.out.trans S7.out).cell) (L15.out.keep S7.out.cell)).mono ?_
          rintro e y8 ⟨rfl, o8, b8, z8⟩
          have B8 := Lib.hid (below_call B7.out b8)
          have Z := Lib.hid (show _ ∧ _ ∧ w1.heap.size ≤ y7.heap.size from And.intro o8 (And.intro z8 B7.out.size))
          clear o8 z8 b8
          generalize y7.heap.size = gf at *
          go_wp2_with fail
          refine hK.out _ _ ?_ (fun hHeld => ?_)
          ·exact HC.out _ B8.out
          clear hK K
          (try simp only [Act.put, List.setIfInBounds_toArray, List.set_cons_zero, List.set_cons_succ])
          refine wpAnyH_take (i := 18) (oi := qo18) (v := ?_) rfl (by kernel_rfl) (by kernel_rfl) (by kernel_rfl) (fun _ _ _ h => h) (Or.inl ⟨by rfl, ?_⟩) (by assumption) ?_
          rotate_left
          ·(intro w hSw; (try dsimp only at hSw); unfold qo18; go_simp) <;> with_reducible rfl
          unfold qo18; (try simp only [Act.put, List.setIfInBounds_toArray, List.set_cons_zero, List.set_cons_succ])
          refine wpAnyH_done (by kernel_rfl) ?_ _
          refine NoPanic.normal ?_
          go_wp2_with fail
          go_ret
          exact ⟨gf, rfl, fin8 BB.out.1 B8.out Z.out⟩
         exact AllReadyH.nil
        exact AllReadyH.nil
       exact AllReadyH.nil
      exact AllReadyH.nil
     exact AllReadyH.nil
    refine AllReadyH.cons (o := qo9) rfl (fun K hK => ?_) ?_
    ·unfold qo9; go_simp
     refine (bytes_two 4 8 (by omega) rfl x y p k g8 HX.out.1 HX.out.2.1 (by have := HX.out; omega) (by have := HX.out; omega) _ (S2.out.some P8.out.1) (S2.out.some P8.out.2)).mono ?_
     rintro e y3 ⟨g9, rfl, l9, b3⟩
     have L9 := Lib.hid l9
     have D3 := Lib.hid b3
     have B3 := Lib.hid (below_call B2.out b3)
     have S3 := Lib.hid (Same.of b3)
     clear l9 b3
     go_wp2_with fail
     refine hK.out _ _ ?_ (fun hHeld => ?_)
     ·exact HC.out _ B3.out
     clear hK K
     (try simp only [Act.put, List.setIfInBounds_toArray, List.set_cons_zero, List.set_cons_succ])
     refine wpAnyH_ready (rs := [1, 14]) (by kernel_rfl) (by simp) ?_
     refine AllReadyH.cons (o := qo1) rfl (fun K hK => ?_) ?_
     ·unfold qo1
      obtain ⟨y4, hcv, s4, t4⟩ := conv_mark y3 g0 8 8 _ ((D3.out.block g0 (by have := K0s.out; omega)).trans K0.out)
      have S4 := Lib.hid s4
      have B4 := Lib.hid (t4 _ _ B3.out K0s.out.2)
      clear s4 t4
      go_simp
      clear hcv
      refine hK.out _ _ ?_ (fun hHeld => ?_)
      ·exact HC.out _ B4.out
      clear hK K
      (try simp only [Act.put, List.setIfInBounds_toArray, List.set_cons_zero, List.set_cons_succ])
      refine wpAnyH_ready (rs := [14]) (by kernel_rfl) (by simp) ?_
      refine AllReadyH.cons (o := qo14) rfl (fun K hK => ?_) ?_
      ·unfold qo14; go_simp
       obtain ⟨y5, hy5⟩ : ∃ z, z = y4.alloc (.cells #[.int .u64 (o : Int), .int .u64 (n : Int)] 28) := ⟨_, rfl⟩
       obtain ⟨g14, hg14⟩ : ∃ z, z = y4.heap.size := ⟨_, rfl⟩
       have D5 := Lib.hid (show Below y4.heap.size y4 y5 from by rw [hy5]; exact below_new _ _)
       have B5 := Lib.hid (below_call B4.out D5.out)
       have S5 := Lib.hid (Same.of D5.out)
       have P14 := Lib.hid (show y5.cell? ⟨g14, 0, none⟩ = _ ∧ y5.cell? ⟨g14, 1, none⟩ = _ from by rw [hy5, hg14]; exact pair_cells _ _ _)
       rw [← hg14, ← hy5]
       clear hy5 hg14
       refine hK.out _ _ ?_ (fun hHeld => ?_)
       ·exact HC.out _ B5.out
       clear hK K
       (try simp only [Act.put, List.setIfInBounds_toArray, List.set_cons_zero, List.set_cons_succ])
       refine wpAnyH_ready (rs := [15]) (by kernel_rfl) (by simp) ?_
       refine AllReadyH.cons (o := qo15) rfl (fun K hK => ?_) ?_
       ·unfold qo15; go_simp
        refine (bytes_two 8 16 (by omega) rfl (o : Int) (n : Int) o n g14 rfl rfl HX.out.2.2.2.2.1 HX.out.2.2.2.2.2 _ ((Same.refl _).some P14.out.1) ((Same.refl _).some P14.out.2)).mono ?_
        rintro e y6 ⟨g15, rfl, l15, b6⟩
        have L15 := Lib.hid l15
        have D6 := Lib.hid b6
        have B6 := Lib.hid (below_call B5.out b6)
        have S6 := Lib.hid (Same.of b6)
        clear l15 b6
        go_wp2_with fail
        refine hK.out _ _ ?_ (fun hHeld => ?_)
        ·exact HC.out _ B6.out
        clear hK K
        (try simp only [Act.put, List.setIfInBounds_toArray, List.set_cons_zero, List.set_cons_succ])
        refine wpAnyH_ready (rs := [16]) (by kernel_rfl) (by simp) ?_
        refine AllReadyH.cons (o := qo16) rfl (fun K hK => ?_) ?_
        ·unfold qo16; go_simp
         obtain ⟨y7, hy7⟩ : ∃ z, z = y6.alloc (.cells #[.slice (some ⟨g0, 0, none⟩) 8 8, .slice (some ⟨g9, 0, none⟩) 8 8, .slice (some ⟨g15, 0, none⟩) 16 16] 22) := ⟨_, rfl⟩
         obtain ⟨g16, hg16⟩ : ∃ z, z = y6.heap.size := ⟨_, rfl⟩
         have D7 := Lib.hid (show Below y6.heap.size y6 y7 from by rw [hy7]; exact below_new _ _)
         have B7 := Lib.hid (below_call B6.out D7.out)
         have S7 := Lib.hid (Same.of D7.out)
         have P16 := Lib.hid (show y7.cell? ⟨g16, 0, none⟩ = _ ∧ y7.cell? ⟨g16, 1, none⟩ = _ ∧ y7.cell? ⟨g16, 2, none⟩ = _ from by rw [hy7, hg16]; exact three_cells _ _ _ _)
         rw [← hg16, ← hy7]
         clear hy7 hg16
         refine hK.out _ _ ?_ (fun hHeld => ?_)
         ·exact HC.out _ B7.out
         clear hK K
         (try simp only [Act.put, List.setIfInBounds_toArray, List.set_cons_zero, List.set_cons_succ])
         refine wpAnyH_ready (rs := [17]) (by kernel_rfl) (by simp) ?_
         refine AllReadyH.cons (o := qo17) rfl (fun K hK => ?_) ?_
         ·unfold qo17; go_simp
          refine (join8 p k o n _ g16 y7.heap.size g0 g9 g15 rfl P16.out (L0.out.keep ((((S3.out.trans S4.out).trans S5.out).trans S6.out).trans S7.out).cell) (L9.out.keep (((S4.out.trans S5.out).trans S6.out).trans S7.out).cell) (L15.out.keep S7.out.cell)).mono ?_
          rintro e y8 ⟨rfl, o8, b8, z8⟩
          have B8 := Lib.hid (below_call B7.out b8)
          have Z := Lib.hid (show _ ∧ _ ∧ w1.heap.size ≤ y7.heap.size from And.intro o8 (And.intro z8 B7.out.size))
          clear o8 z8 b8
          generalize y7.heap.size = gf at *
          go_wp2_with fail
          refine hK.out _ _ ?_ (fun hHeld => ?_)
          ·exact HC.out _ B8.out
          clear hK K
          (try simp only [Act.put, List.setIfInBounds_toArray, List.set_cons_zero, List.set_cons_succ])
          refine wpAnyH_take (i := 18) (oi := qo18) (v := ?_) rfl (by kernel_rfl) (by kernel_rfl) (by kernel_rfl) (fun _ _ _ h => h) (Or.inl ⟨by rfl, ?_⟩) (by assumption) ?_
          rotate_left
          ·(intro w hSw; (try dsimp only at hSw); unfold qo18; go_simp) <;> with_reducible rfl
          unfold qo18; (try simp only [Act.put, List.setIfInBounds_toArray, List.set_cons_zero, List.set_cons_succ])
          refine wpAnyH_done (by kernel_rfl) ?_ _
          refine NoPanic.normal ?_
          go_wp2_with fail
          go_ret
          exact ⟨gf, rfl, fin8 BB.out.1 B8.out Z.out⟩
         exact AllReadyH.nil
        exact AllReadyH.nil
       exact AllReadyH.nil
      exact AllReadyH.nil
     refine AllReadyH.cons (o := qo14) rfl (fun K hK => ?_) ?_
     ·unfold qo14; go_simp
      obtain ⟨y4, hy4⟩ : ∃ z, z = y3.alloc (.cells #[.int .u64 (o : Int), .int .u64 (n : Int)] 28) := ⟨_, rfl⟩
      obtain ⟨g14, hg14⟩ : ∃ z, z = y3.heap.size := ⟨_, rfl⟩
      have D4 := Lib.hid (show Below y3.heap.size y3 y4 from by rw [hy4]; exact below_new _ _)
      have B4 := Lib.hid (below_call B3.out D4.out)
      have S4 := Lib.hid (Same.of D4.out)
      have P14 := Lib.hid (show y4.cell? ⟨g14, 0, none⟩ = _ ∧ y4.cell? ⟨g14, 1, none⟩ = _ from by rw [hy4, hg14]; exact pair_cells _ _ _)
      rw [← hg14, ← hy4]
      clear hy4 hg14
      refine hK.out _ _ ?_ (fun hHeld => ?_)
      ·exact HC.out _ B4.out
      clear hK K
      (try simp only [Act.put, List.setIfInBounds_toArray, List.set_cons_zero, List.set_cons_succ])
      refine wpAnyH_ready (rs := [1, 15]) (by kernel_rfl) (by simp) ?_
      refine AllReadyH.cons (o := qo1) rfl (fun K hK => ?_) ?_
      ·unfold qo1
       obtain ⟨y5, hcv, s5, t5⟩ := conv_mark y4 g0 8 8 _ ((D4.out.block g0 (by have := K0s.out; have := D3.out.size; omega)).trans ((D3.out.block g0 (by have := K0s.out; omega)).trans K0.out))
       have S5 := Lib.hid s5
       have B5 := Lib.hid (t5 _ _ B4.out K0s.out.2)
       clear s5 t5
       go_simp
       clear hcv
       refine hK.out _ _ ?_ (fun hHeld => ?_)
       ·exact HC.out _ B5.out
       clear hK K
       (try simp only [Act.put, List.setIfInBounds_toArray, List.set_cons_zero, List.set_cons_succ])
       refine wpAnyH_ready (rs := [15]) (by kernel_rfl) (by simp) ?_
       refine AllReadyH.cons (o := qo15) rfl (fun K hK => ?_) ?_
       ·unfold qo15; go_simp
        refine (bytes_two 8 16 (by omega) rfl (o : Int) (n : Int) o n g14 rfl rfl HX.out.2.2.2.2.1 HX.out.2.2.2.2.2 _ (S5.out.some P14.out.1) (S5.out.some P14.out.2)).mono ?_
        rintro e y6 ⟨g15, rfl, l15, b6⟩
        have L15 := Lib.hid l15
        have D6 := Lib.hid b6
        have B6 := Lib.hid (below_call B5.out b6)
        have S6 := Lib.hid (Same.of b6)
        clear l15 b6
        go_wp2_with fail
        refine hK.out _ _ ?_ (fun hHeld => ?_)
        ·exact HC.out _ B6.out
        clear hK K
        (try simp only [Act.put, List.setIfInBounds_toArray, List.set_cons_zero, List.set_cons_succ])
        refine wpAnyH_ready (rs := [16]) (by kernel_rfl) (by simp) ?_
        refine AllReadyH.cons (o := qo16) rfl (fun K hK => ?_) ?_
        ·unfold qo16; go_simp
         obtain ⟨y7, hy7⟩ : ∃ z, z = y6.alloc (.cells #[.slice (some ⟨g0, 0, none⟩) 8 8, .slice (some ⟨g9, 0, none⟩) 8 8, .slice (some ⟨g15, 0, none⟩) 16 16] 22) := ⟨_, rfl⟩
         obtain ⟨g16, hg16⟩ : ∃ z, z = y6.heap.size := ⟨_, rfl⟩
         have D7 := Lib.hid (show Below y6.heap.size y6 y7 from by rw [hy7]; exact below_new _ _)
         have B7 := Lib.hid (below_call B6.out D7.out)
         have S7 := Lib.hid (Same.of D7.out)
         have P16 := Lib.hid (show y7.cell? ⟨g16, 0, none⟩ = _ ∧ y7.cell? ⟨g16, 1, none⟩ = _ ∧ y7.cell? ⟨g16, 2, none⟩ = _ from by rw [hy7, hg16]; exact three_cells _ _ _ _)
         rw [← hg16, ← hy7]
         clear hy7 hg16
         refine hK.out _ _ ?_ (fun hHeld => ?_)
         ·exact HC.out _ B7.out
         clear hK K
         (try simp only [Act.put, List.setIfInBounds_toArray, List.set_cons_zero, List.set_cons_succ])
         refine wpAnyH_ready (rs := [17]) (by kernel_rfl) (by simp) ?_
         refine AllReadyH.cons (o := qo17) rfl (fun K hK => ?_) ?_
         ·unfold qo17; go_simp
          refine (join8 p k o n _ g16 y7.heap.size g0 g9 g15 rfl P16.out (L0.out.keep ((((S3.out.trans S4.out).trans S5.out).trans S6.out).trans S7.out).cell) (L9.out.keep (((S4.out.trans S5.out).trans S6.out).trans S7.out).cell) (L15.out.keep S7.out.cell)).mono ?_
          rintro e y8 ⟨rfl, o8, b8, z8⟩
          have B8 := Lib.hid (below_call B7.out b8)
          have Z := Lib.hid (show _ ∧ _ ∧ w1.heap.size ≤ y7.heap.size from And.intro o8 (And.intro z8 B7.out.size))
          clear o8 z8 b8
          generalize y7.heap.size = gf at *
          go_wp2_with fail
          refine hK.out _ _ ?_ (fun hHeld => ?_)
          ·exact HC.out _ B8.out
          clear hK K
          (try simp only [Act.put, List.setIfInBounds_toArray, List.set_cons_zero, List.set_cons_succ])
          refine wpAnyH_take (i := 18) (oi := qo18) (v := ?_) rfl (by kernel_rfl) (by kernel_rfl) (by kernel_rfl) (fun _ _ _ h => h) (Or.inl ⟨by rfl, ?_⟩) (by assumption) ?_
          rotate_left
          ·(intro w hSw; (try dsimp only at hSw); unfold qo18; go_simp) <;> with_reducible rfl
          unfold qo18; (try simp only [Act.put, List.setIfInBounds_toArray, List.set_cons_zero, List.set_cons_succ])
          refine wpAnyH_done (by kernel_rfl) ?_ _
          refine NoPanic.normal ?_
          go_wp2_with fail
          go_ret
          exact ⟨gf, rfl, fin8 BB.out.1 B8.out Z.out⟩
         exact AllReadyH.nil
        exact AllReadyH.nil
       exact AllReadyH.nil
      refine AllReadyH.cons (o := qo15) rfl (fun K hK => ?_) ?_
      ·unfold qo15; go_simp
       refine (bytes_two 8 16 (by omega) rfl (o : Int) (n : Int) o n g14 rfl rfl HX.out.2.2.2.2.1 HX.out.2.2.2.2.2 _ ((Same.refl _).some P14.out.1) ((Same.refl _).some P14.out.2)).mono ?_
       rintro e y5 ⟨g15, rfl, l15, b5⟩
       have L15 := Lib.hid l15
       have D5 := Lib.hid b5
       have B5 := Lib.hid (below_call B4.out b5)
       have S5 := Lib.hid (Same.of b5)
       clear l15 b5
       go_wp2_with fail
       refine hK.out _ _ ?_ (fun hHeld => ?_)
       ·exact HC.out _ B5.out
       clear hK K
       (try simp only [Act.put, List.setIfInBounds_toArray, List.set_cons_zero, List.set_cons_succ])
       refine wpAnyH_ready (rs := [1]) (by kernel_rfl) (by simp) ?_
       refine AllReadyH.cons (o := qo1) rfl (fun K hK => ?_) ?_
       ·unfold qo1
        obtain ⟨y6, hcv, s6, t6⟩ := conv_mark y5 g0 8 8 _ ((D5.out.block g0 (by have := K0s.out; have := D3.out.size; have := D4.out.size; omega)).trans ((D4.out.block g0 (by have := K0s.out; have := D3.out.size; omega)).trans ((D3.out.block g0 (by have := K0s.out; omega)).trans K0.out)))
        have S6 := Lib.hid s6
        have B6 := Lib.hid (t6 _ _ B5.out K0s.out.2)
        clear s6 t6
        go_simp
        clear hcv
        refine hK.out _ _ ?_ (fun hHeld => ?_)
        ·exact HC.out _ B6.out
        clear hK K
        (try simp only [Act.put, List.setIfInBounds_toArray, List.set_cons_zero, List.set_cons_succ])
        refine wpAnyH_ready (rs := [16]) (by kernel_rfl) (by simp) ?_
        refine AllReadyH.cons (o := qo16) rfl (fun K hK => ?_) ?_
        ·unfold qo16; go_simp
         obtain ⟨y7, hy7⟩ : ∃ z, z = y6.alloc (.cells #[.slice (some ⟨g0, 0, none⟩) 8 8, .slice (some ⟨g9, 0, none⟩) 8 8, .slice (some ⟨g15, 0, none⟩) 16 16] 22) := ⟨_, rfl⟩
         obtain ⟨g16, hg16⟩ : ∃ z, z = y6.heap.size := ⟨_, rfl⟩
         have D7 := Lib.hid (show Below y6.heap.size y6 y7 from by rw [hy7]; exact below_new _ _)
         have B7 := Lib.hid (below_call B6.out D7.out)
         have S7 := Lib.hid (Same.of D7.out)
         have P16 := Lib.hid (show y7.cell? ⟨g16, 0, none⟩ = _ ∧ y7.cell? ⟨g16, 1, none⟩ = _ ∧ y7.cell? ⟨g16, 2, none⟩ = _ from by rw [hy7, hg16]; exact three_cells _ _ _ _)
         rw [← hg16, ← hy7]
         clear hy7 hg16
         refine hK.out _ _ ?_ (fun hHeld => ?_)
         ·exact HC.out _ B7.out
         clear hK K
         (try simp only [Act.put, List.setIfInBounds_toArray, List.set_cons_zero, List.set_cons_succ])
         refine wpAnyH_ready (rs := [17]) (by kernel_rfl) (by simp) ?_
         refine AllReadyH.cons (o := qo17) rfl (fun K hK => ?_) ?_
         ·unfold qo17; go_simp
          refine (join8 p k o n _ g16 y7.heap.size g0 g9 g15 rfl P16.out (L0.out.keep ((((S3.out.trans S4.out).trans S5.out).trans S6.out).trans S7.out).cell) (L9.out.keep (((S4.out.trans S5.out).trans S6.out).trans S7.out).cell) (L15.out.keep (S6.out.trans S7.out).cell)).mono ?_
          rintro e y8 ⟨rfl, o8, b8, z8⟩
          have B8 := Lib.hid (below_call B7.out b8)
          have Z := Lib.hid (show _ ∧ _ ∧ w1.heap.size ≤ y7.heap.size from And.intro o8 (And.intro z8 B7.out.size))
          clear o8 z8 b8
          generalize y7.heap.size = gf at *
          go_wp2_with fail
          refine hK.out _ _ ?_ (fun hHeld => ?_)
          ·exact HC.out _ B8.out
          clear hK K
          (try simp only [Act.put, List.setIfInBounds_toArray, List.set_cons_zero, List.set_cons_succ])
          refine wpAnyH_take (i := 18) (oi := qo18) (v := ?_) rfl (by kernel_rfl) (by kernel_rfl) (by kernel_rfl) (fun _ _ _ h => h) (Or.inl ⟨by rfl, ?_⟩) (by assumption) ?_
          rotate_left
          ·(intro w hSw; (try dsimp only at hSw); unfold qo18; go_simp) <;> with_reducible rfl
          unfold qo18; (try simp only [Act.put, List.setIfInBounds_toArray, List.set_cons_zero, List.set_cons_succ])
          refine wpAnyH_done (by kernel_rfl) ?_ _
          refine NoPanic.normal ?_
          go_wp2_with fail
          go_ret
          exact ⟨gf, rfl, fin8 BB.out.1 B8.out Z.out⟩
         exact AllReadyH.nil
        exact AllReadyH.nil
       exact AllReadyH.nil
      exact AllReadyH.nil
     exact AllReadyH.nil
    refine AllReadyH.cons (o := qo14) rfl (fun K hK => ?_) ?_
    ·unfold qo14; go_simp
     obtain ⟨y3, hy3⟩ : ∃ z, z = y2.alloc (.cells #[.int .u64 (o : Int), .int .u64 (n : Int)] 28) := ⟨_, rfl⟩
     obtain ⟨g14, hg14⟩ : ∃ z, z = y2.heap.size := ⟨_, rfl⟩
     have D3 := Lib.hid (show Below y2.heap.size y2 y3 from by rw [hy3]; exact below_new _ _)
     have B3 := Lib.hid (below_call B2.out D3.out)
     have S3 := Lib.hid (Same.of D3.out)
     have P14 := Lib.hid (show y3.cell? ⟨g14, 0, none⟩ = _ ∧ y3.cell? ⟨g14, 1, none⟩ = _ from by rw [hy3, hg14]; exact pair_cells _ _ _)
     rw [← hg14, ← hy3]
     clear hy3 hg14
     refine hK.out _ _ ?_ (fun hHeld => ?_)
     ·exact HC.out _ B3.out
     clear hK K
     (try simp only [Act.put, List.setIfInBounds_toArray, List.set_cons_zero, List.set_cons_succ])
     refine wpAnyH_ready (rs := [1, 9]) (by kernel_rfl) (by simp) ?_
     refine AllReadyH.cons (o := qo1) rfl (fun K hK => ?_) ?_
     ·unfold qo1
      obtain ⟨y4, hcv, s4, t4⟩ := conv_mark y3 g0 8 8 _ ((D3.out.block g0 (by have := K0s.out; omega)).trans K0.out)
      have S4 := Lib.hid s4
      have B4 := Lib.hid (t4 _ _ B3.out K0s.out.2)
      clear s4 t4
      go_simp
      clear hcv
      refine hK.out _ _ ?_ (fun hHeld => ?_)
      ·exact HC.out _ B4.out
      clear hK K
      (try simp only [Act.put, List.setIfInBounds_toArray, List.set_cons_zero, List.set_cons_succ])
      refine wpAnyH_ready (rs := [9]) (by kernel_rfl) (by simp) ?_
      refine AllReadyH.cons (o := qo9) rfl (fun K hK => ?_) ?_
      ·unfold qo9; go_simp
       refine (bytes_two 4 8 (by omega) rfl x y p k g8 HX.out.1 HX.out.2.1 (by have := HX.out; omega) (by have := HX.out; omega) _ (((S2.out.trans S3.out).trans S4.out).some P8.out.1) (((S2.out.trans S3.out).trans S4.out).some P8.out.2)).mono ?_
       rintro e y5 ⟨g9, rfl, l9, b5⟩
       have L9 := Lib.hid l9
       have D5 := Lib.hid b5
       have B5 := Lib.hid (below_call B4.out b5)
       have S5 := Lib.hid (Same.of b5)
       clear l9 b5
       go_wp2_with fail
       refine hK.out _ _ ?_ (fun hHeld => ?_)
       ·exact HC.out _ B5.out
       clear hK K
       (try simp only [Act.put, List.setIfInBounds_toArray, List.set_cons_zero, List.set_cons_succ])
       refine wpAnyH_ready (rs := [15]) (by kernel_rfl) (by simp) ?_
       refine AllReadyH.cons (o := qo15) rfl (fun K hK => ?_) ?_
       ·unfold qo15; go_simp
        refine (bytes_two 8 16 (by omega) rfl (o : Int) (n : Int) o n g14 rfl rfl HX.out.2.2.2.2.1 HX.out.2.2.2.2.2 _ ((S4.out.trans S5.out).some P14.out.1) ((S4.out.trans S5.out).some P14.out.2)).mono ?_
        rintro e y6 ⟨g15, rfl, l15, b6⟩
        have L15 := Lib.hid l15
        have D6 := Lib.hid b6
        have B6 := Lib.hid (below_call B5.out b6)
        have S6 := Lib.hid (Same.of b6)
        clear l15 b6
        go_wp2_with fail
        refine hK.out _ _ ?_ (fun hHeld => ?_)
        ·exact HC.out _ B6.out
        clear hK K
        (try simp only [Act.put, List.setIfInBounds_toArray, List.set_cons_zero, List.set_cons_succ])
        refine wpAnyH_ready (rs := [16]) (by kernel_rfl) (by simp) ?_
        refine AllReadyH.cons (o := qo16) rfl (fun K hK => ?_) ?_
        ·unfold qo16; go_simp
         obtain ⟨y7, hy7⟩ : ∃ z, z = y6.alloc (.cells #[.slice (some ⟨g0, 0, none⟩) 8 8, .slice (some ⟨g9, 0, none⟩) 8 8, .slice (some ⟨g15, 0, none⟩) 16 16] 22) := ⟨_, rfl⟩
         obtain ⟨g16, hg16⟩ : ∃ z, z = y6.heap.size := ⟨_, rfl⟩
         have D7 := Lib.hid (show Below y6.heap.size y6 y7 from by rw [hy7]; exact below_new _ _)
         have B7 := Lib.hid (below_call B6.out D7.out)
         have S7 := Lib.hid (Same.of D7.out)
         have P16 := Lib.hid (show y7.cell? ⟨g16, 0, none⟩ = _ ∧ y7.cell? ⟨g16, 1, none⟩ = _ ∧ y7.cell? ⟨g16, 2, none⟩ = _ from by rw [hy7, hg16]; exact three_cells _ _ _ _)
         rw [← hg16, ← hy7]
         clear hy7 hg16
         refine hK.out _ _ ?_ (fun hHeld => ?_)
         ·exact HC.out _ B7.out
         clear hK K
         (try simp only [Act.put, List.setIfInBounds_toArray, List.set_cons_zero, List.set_cons_succ])
         refine wpAnyH_ready (rs := [17]) (by kernel_rfl) (by simp) ?_
         refine AllReadyH.cons (o := qo17) rfl (fun K hK => ?_) ?_
         ·unfold qo17; go_simp
          refine (join8 p k o n _ g16 y7.heap.size g0 g9 g15 rfl P16.out (L0.out.keep ((((S3.out.trans S4.out).trans S5.out).trans S6.out).trans S7.out).cell) (L9.out.keep (S6.out.trans S7.out).cell) (L15.out.keep S7.out.cell)).mono ?_
          rintro e y8 ⟨rfl, o8, b8, z8⟩
          have B8 := Lib.hid (below_call B7.out b8)
          have Z := Lib.hid (show _ ∧ _ ∧ w1.heap.size ≤ y7.heap.size from And.intro o8 (And.intro z8 B7.out.size))
          clear o8 z8 b8
          generalize y7.heap.size = gf at *
          go_wp2_with fail
          refine hK.out _ _ ?_ (fun hHeld => ?_)
          ·exact HC.out _ B8.out
          clear hK K
          (try simp only [Act.put, List.setIfInBounds_toArray, List.set_cons_zero, List.set_cons_succ])
          refine wpAnyH_take (i := 18) (oi := qo18) (v := ?_) rfl (by kernel_rfl) (by kernel_rfl) (by kernel_rfl) (fun _ _ _ h => h) (Or.inl ⟨by rfl, ?_⟩) (by assumption) ?_
          rotate_left
          ·(intro w hSw; (try dsimp only at hSw); unfold qo18; go_simp) <;> with_reducible rfl
          unfold qo18; (try simp only [Act.put, List.setIfInBounds_toArray, List.set_cons_zero, List.set_cons_succ])
          refine wpAnyH_done (by kernel_rfl) ?_ _
          refine NoPanic.normal ?_
          go_wp2_with fail
          go_ret
          exact ⟨gf, rfl, fin8 BB.out.1 B8.out Z.out⟩
         exact AllReadyH.nil
        exact AllReadyH.nil
       exact AllReadyH.nil
      exact AllReadyH.nil
     refine AllReadyH.cons (o := qo9) rfl (fun K hK => ?_) ?_
     ·unfold qo9; go_simp
      refine (bytes_two 4 8 (by omega) rfl x y p k g8 HX.out.1 HX.out.2.1 (by have := HX.out; omega) (by have := HX.out; omega) _ ((S2.out.trans S3.out).some P8.out.1) ((S2.out.trans S3.out).some P8.out.2)).mono ?_
      rintro e y4 ⟨g9, rfl, l9, b4⟩
      have L9 := Lib.hid l9
      have D4 := Lib.hid b4
      have B4 := Lib.hid (below_call B3.out b4)
      have S4 := Lib.hid (Same.of b4)
      clear l9 b4
      go_wp2_with fail
      refine hK.out _ _ ?_ (fun hHeld => ?_)
      ·exact HC.out _ B4.out
      clear hK K
      (try simp only [Act.put, List.setIfInBounds_toArray, List.set_cons_zero, List.set_cons_succ])
      refine wpAnyH_ready (rs := [1, 15]) (by kernel_rfl) (by simp) ?_
      refine AllReadyH.cons (o := qo1) rfl (fun K hK => ?_) ?_
      ·unfold qo1
       obtain ⟨y5, hcv, s5, t5⟩ := conv_mark y4 g0 8 8 _ ((D4.out.block g0 (by have := K0s.out; have := D3.out.size; omega)).trans ((D3.out.block g0 (by have := K0s.out; omega)).trans K0.out))
       have S5 := Lib.hid s5
       have B5 := Lib.hid (t5 _ _ B4.out K0s.out.2)
       clear s5 t5
       go_simp
       clear hcv
       refine hK.out _ _ ?_ (fun hHeld => ?_)
       ·exact HC.out _ B5.out
       clear hK K
       (try simp only [Act.put, List.setIfInBounds_toArray, List.set_cons_zero, List.set_cons_succ])
       refine wpAnyH_ready (rs := [15]) (by kernel_rfl) (by simp) ?_
       refine AllReadyH.cons (o := qo15) rfl (fun K hK => ?_) ?_
       ·unfold qo15; go_simp
        refine (bytes_two 8 16 (by omega) rfl (o : Int) (n : Int) o n g14 rfl rfl HX.out.2.2.2.2.1 HX.out.2.2.2.2.2 _ ((S4.out.trans S5.out).some P14.out.1) ((S4.out.trans S5.out).some P14.out.2)).mono ?_
        rintro e y6 ⟨g15, rfl, l15, b6⟩
        have L15 := Lib.hid l15
        have D6 := Lib.hid b6
        have B6 := Lib.hid (below_call B5.out b6)
        have S6 := Lib.hid (Same.of b6)
        clear l15 b6
        go_wp2_with fail
        refine hK.out _ _ ?_ (fun hHeld => ?_)
        ·exact HC.out _ B6.out
        clear hK K
        (try simp only [Act.put, List.setIfInBounds_toArray, List.set_cons_zero, List.set_cons_succ])
        refine wpAnyH_ready (rs := [16]) (by kernel_rfl) (by simp) ?_
        refine AllReadyH.cons (o := qo16) rfl (fun K hK => ?_) ?_
        ·unfold qo16; go_simp
         obtain ⟨y7, hy7⟩ : ∃ z, z = y6.alloc (.cells #[.slice (some ⟨g0, 0, none⟩) 8 8, .slice (some ⟨g9, 0, none⟩) 8 8, .slice (some ⟨g15, 0, none⟩) 16 16] 22) := ⟨_, rfl⟩
         obtain ⟨g16, hg16⟩ : ∃ z, z = y6.heap.size := ⟨_, rfl⟩
         have D7 := Lib.hid (show Below y6.heap.size y6 y7 from by rw [hy7]; exact below_new _ _)
         have B7 := Lib.hid (below_call B6.out D7.out)
         have S7 := Lib.hid (Same.of D7.out)
         have P16 := Lib.hid (show y7.cell? ⟨g16, 0, none⟩ = _ ∧ y7.cell? ⟨g16, 1, none⟩ = _ ∧ y7.cell? ⟨g16, 2, none⟩ = _ from by rw [hy7, hg16]; exact three_cells _ _ _ _)
         rw [← hg16, ← hy7]
         clear hy7 hg16
         refine hK.out _ _ ?_ (fun hHeld => ?_)
         ·exact HC.out _ B7.out
         clear hK K
         (try simp only [Act.put, List.setIfInBounds_toArray, List.set_cons_zero, List.set_cons_succ])
         refine wpAnyH_ready (rs := [17]) (by kernel_rfl) (by simp) ?_
         refine AllReadyH.cons (o := qo17) rfl (fun K hK => ?_) ?_
         ·unfold qo17; go_simp
          refine (join8 p k o n _ g16 y7.heap.size g0 g9 g15 rfl P16.out (L0.out.keep ((((S3.out.trans S4.out).trans S5.out).trans S6.out).trans S7.out).cell) (L9.out.keep ((S5.out.trans S6.out).trans S7.out).cell) (L15.out.keep S7.out.cell)).mono ?_
          rintro e y8 ⟨rfl, o8, b8, z8⟩
          have B8 := Lib.hid (below_call B7.out b8)
          have Z := Lib.hid (show _ ∧ _ ∧ w1.heap.size ≤ y7.heap.size from And.intro o8 (And.intro z8 B7.out.size))
          clear o8 z8 b8
          generalize y7.heap.size = gf at *
          go_wp2_with fail
          refine hK.out _ _ ?_ (fun hHeld => ?_)
          ·exact HC.out _ B8.out
          clear hK K
          (try simp only [Act.put, List.setIfInBounds_toArray, List.set_cons_zero, List.set_cons_succ])
          refine wpAnyH_take (i := 18) (oi := qo18) (v := ?_) rfl (by kernel_rfl) (by kernel_rfl) (by kernel_rfl) (fun _ _ _ h => h) (Or.inl ⟨by rfl, ?_⟩) (by assumption) ?_
          rotate_left
          ·(intro w hSw; (try dsimp only at hSw); unfold qo18; go_simp) <;> with_reducible rfl
          unfold qo18; (try simp only [Act.put, List.setIfInBounds_toArray, List.set_cons_zero, List.set_cons_succ])
          refine wpAnyH_done (by kernel_rfl) ?_ _
          refine NoPanic.normal ?_
          go_wp2_with fail
          go_ret
          exact ⟨gf, rfl, fin8 BB.out.1 B8.out Z.out⟩
         exact AllReadyH.nil
        exact AllReadyH.nil
       exact AllReadyH.nil
      refine AllReadyH.cons (o := qo15) rfl (fun K hK => ?_) ?_
      ·unfold qo15; go_simp
       refine (bytes_two 8 16 (by omega) rfl (o : Int) (n : Int) o n g14 rfl rfl HX.out.2.2.2.2.1 HX.out.2.2.2.2.2 _ (S4.out.some P14.out.1) (S4.out.some P14.out.2)).mono ?_
       rintro e y5 ⟨g15, rfl, l15, b5⟩
       have L15 := Lib.hid l15
       have D5 := Lib.hid b5
       have B5 := Lib.hid (below_call B4.out b5)
       have S5 := Lib.hid (Same.of b5)
       clear l15 b5
       go_wp2_with fail
       refine hK.out _ _ ?_ (fun hHeld => ?_)
       ·exact HC.out _ B5.out
       clear hK K
       (try simp only [Act.put, List.setIfInBounds_toArray, List.set_cons_zero, List.set_cons_succ])
       refine wpAnyH_ready (rs := [1]) (by kernel_rfl) (by simp) ?_
       refine AllReadyH.cons (o := qo1) rfl (fun K hK => ?_) ?_
       ·unfold qo1
        obtain ⟨y6, hcv, s6, t6⟩ := conv_mark y5 g0 8 8 _ ((D5.out.block g0 (by have := K0s.out; have := D3.out.size; have := D4.out.size; omega)).trans ((D4.out.block g0 (by have := K0s.out; have := D3.out.size; omega)).trans ((D3.out.block g0 (by have := K0s.out; omega)).trans K0.out)))
        have S6 := Lib.hid s6
        have B6 := Lib.hid (t6 _ _ B5.out K0s.out.2)
        clear s6 t6
        go_simp
        clear hcv
        refine hK.out _ _ ?_ (fun hHeld => ?_)
        ·exact HC.out _ B6.out
        clear hK K
        (try simp only [Act.put, List.setIfInBounds_toArray, List.set_cons_zero, List.set_cons_succ])
        refine wpAnyH_ready (rs := [16]) (by kernel_rfl) (by simp) ?_
        refine AllReadyH.cons (o := qo16) rfl (fun K hK => ?_) ?_
        ·unfold qo16; go_simp
         obtain ⟨y7, hy7⟩ : ∃ z, z = y6.alloc (.cells #[.slice (some ⟨g0, 0, none⟩) 8 8, .slice (some ⟨g9, 0, none⟩) 8 8, .slice (some ⟨g15, 0, none⟩) 16 16] 22) := ⟨_, rfl⟩
         obtain ⟨g16, hg16⟩ : ∃ z, z = y6.heap.size := ⟨_, rfl⟩
         have D7 := Lib.hid (show Below y6.heap.size y6 y7 from by rw [hy7]; exact below_new _ _)
         have B7 := Lib.hid (below_call B6.out D7.out)
         have S7 := Lib.hid (Same.of D7.out)
         have P16 := Lib.hid (show y7.cell? ⟨g16, 0, none⟩ = _ ∧ y7.cell? ⟨g16, 1, none⟩ = _ ∧ y7.cell? ⟨g16, 2, none⟩ = _ from by rw [hy7, hg16]; exact three_cells _ _ _ _)
         rw [← hg16, ← hy7]
         clear hy7 hg16
         refine hK.out _ _ ?_ (fun hHeld => ?_)
         ·exact HC.out _ B7.out
         clear hK K
         (try simp only [Act.put, List.setIfInBounds_toArray, List.set_cons_zero, List.set_cons_succ])
         refine wpAnyH_ready (rs := [17]) (by kernel_rfl) (by simp) ?_
         refine AllReadyH.cons (o := qo17) rfl (fun K hK => ?_) ?_
         ·unfold qo17; go_simp
          refine (join8 p k o n _ g16 y7.heap.size g0 g9 g15 rfl P16.out (L0.out.keep ((((S3.out.trans S4.out).trans S5.out).trans S6.out).trans S7.out).cell) (L9.out.keep ((S5.out.trans S6.out).trans S7.out).cell) (L15.out.keep (S6.out.trans S7.out).cell)).mono ?_
          rintro e y8 ⟨rfl, o8, b8, z8⟩
          have B8 := Lib.hid (below_call B7.out b8)
          have Z := Lib.hid (show _ ∧ _ ∧ w1.heap.size ≤ y7.heap.size from And.intro o8 (And.intro z8 B7.out.size))
          clear o8 z8 b8
          generalize y7.heap.size = gf at *
          go_wp2_with fail
          refine hK.out _ _ ?_ (fun hHeld => ?_)
          ·exact HC.out _ B8.out
          clear hK K
          (try simp only [Act.put, List.setIfInBounds_toArray, List.set_cons_zero, List.set_cons_succ])
          refine wpAnyH_take (i := 18) (oi := qo18) (v := ?_) rfl (by kernel_rfl) (by kernel_rfl) (by kernel_rfl) (fun _ _ _ h => h) (Or.inl ⟨by rfl, ?_⟩) (by assumption) ?_
          rotate_left
          ·(intro w hSw; (try dsimp only at hSw); unfold qo18; go_simp) <;> with_reducible rfl
          unfold qo18; (try simp only [Act.put, List.setIfInBounds_toArray, List.set_cons_zero, List.set_cons_succ])
          refine wpAnyH_done (by kernel_rfl) ?_ _
          refine NoPanic.normal ?_
          go_wp2_with fail
          go_ret
          exact ⟨gf, rfl, fin8 BB.out.1 B8.out Z.out⟩
         exact AllReadyH.nil
        exact AllReadyH.nil
       exact AllReadyH.nil
      exact AllReadyH.nil
     exact AllReadyH.nil
    exact AllReadyH.nil
   refine AllReadyH.cons (o := qo9) rfl (fun K hK => ?_) ?_
   ·unfold qo9; go_simp
    refine (bytes_two 4 8 (by omega) rfl x y p k g8 HX.out.1 HX.out.2.1 (by have := HX.out; omega) (by have := HX.out; omega) _ ((Same.refl _).some P8.out.1) ((Same.refl _).some P8.out.2)).mono ?_
    rintro e y2 ⟨g9, rfl, l9, b2⟩
    have L9 := Lib.hid l9
    have D2 := Lib.hid b2
    have B2 := Lib.hid (below_call B1.out b2)
    have S2 := Lib.hid (Same.of b2)
    clear l9 b2
    go_wp2_with fail
    refine hK.out _ _ ?_ (fun hHeld => ?_)
    ·exact HC.out _ B2.out
    clear hK K
    (try simp only [Act.put, List.setIfInBounds_toArray, List.set_cons_zero, List.set_cons_succ])
    refine wpAnyH_ready (rs := [0, 14]) (by kernel_rfl) (by simp) ?_
    refine AllReadyH.cons (o := qo0) rfl (fun K hK => ?_) ?_
    ·unfold qo0; go_simp
     obtain ⟨y3, hy3⟩ : ∃ z, z = y2.alloc (.cells #[.int .u8 115, .int .u8 116, .int .u8 101, .int .u8 97, .int .u8 100, .int .u8 105, .int .u8 110, .int .u8 103] 5) := ⟨_, rfl⟩
     obtain ⟨g0, hg0⟩ : ∃ z, z = y2.heap.size := ⟨_, rfl⟩
     have D3 := Lib.hid (show Below y2.heap.size y2 y3 from by rw [hy3]; exact below_new _ _)
     have B3 := Lib.hid (below_call B2.out D3.out)
     have S3 := Lib.hid (Same.of D3.out)
     have L0 := Lib.hid (show Lies y3 (some ⟨g0, 0, none⟩) (u8s M.mark) from by rw [hy3, hg0]; exact mark_lies _)
     have K0 := Lib.hid (show y3.heap[g0]? = some (.cells #[.int .u8 115, .int .u8 116, .int .u8 101, .int .u8 97, .int .u8 100, .int .u8 105, .int .u8 110, .int .u8 103] 5) from by rw [hy3, hg0]; exact at_new_block _ _)
     have K0s := Lib.hid (show g0 < y3.heap.size ∧ w1.heap.size ≤ g0 from ⟨by rw [hy3, hg0]; simp, by rw [hg0]; exact B2.out.size⟩)
     rw [← hg0, ← hy3]
     clear hy3 hg0
     refine hK.out _ _ ?_ (fun hHeld => ?_)
     ·exact HC.out _ B3.out
     clear hK K
     (try simp only [Act.put, List.setIfInBounds_toArray, List.set_cons_zero, List.set_cons_succ])
     refine wpAnyH_ready (rs := [1, 14]) (by kernel_rfl) (by simp) ?_
     refine AllReadyH.cons (o := qo1) rfl (fun K hK => ?_) ?_
     ·unfold qo1
      obtain ⟨y4, hcv, s4, t4⟩ := conv_mark y3 g0 8 8 _ K0.out
      have S4 := Lib.hid s4
      have B4 := Lib.hid (t4 _ _ B3.out K0s.out.2)
      clear s4 t4
      go_simp
      clear hcv
      refine hK.out _ _ ?_ (fun hHeld => ?_)
      ·exact HC.out _ B4.out
      clear hK K
      (try simp only [Act.put, List.setIfInBounds_toArray, List.set_cons_zero, List.set_cons_succ])
      refine wpAnyH_ready (rs := [14]) (by kernel_rfl) (by simp) ?_
      refine AllReadyH.cons (o := qo14) rfl (fun K hK => ?_) ?_
      ·unfold qo14; go_simp
       obtain ⟨y5, hy5⟩ : ∃ z, z = y4.alloc (.cells #[.int .u64 (o : Int), .int .u64 (n : Int)] 28) := ⟨_, rfl⟩
       obtain ⟨g14, hg14⟩ : ∃ z, z = y4.heap.size := ⟨_, rfl⟩
       have D5 := Lib.hid (show Below y4.heap.size y4 y5 from by rw [hy5]; exact below_new _ _)
       have B5 := Lib.hid (below_call B4.out D5.out)
       have S5 := Lib.hid (Same.of D5.out)
       have P14 := Lib.hid (show y5.cell? ⟨g14, 0, none⟩ = _ ∧ y5.cell? ⟨g14, 1, none⟩ = _ from by rw [hy5, hg14]; exact pair_cells _ _ _)
       rw [← hg14, ← hy5]
       clear hy5 hg14
       refine hK.out _ _ ?_ (fun hHeld => ?_)
       ·exact HC.out _ B5.out
       clear hK K
       (try simp only [Act.put, List.setIfInBounds_toArray, List.set_cons_zero, List.set_cons_succ])
       refine wpAnyH_ready (rs := [15]) (by kernel_rfl) (by simp) ?_
       refine AllReadyH.cons (o := qo15) rfl (fun K hK => ?_) ?_
       ·unfold qo15; go_simp
        refine (bytes_two 8 16 (by omega) rfl (o : Int) (n : Int) o n g14 rfl rfl HX.out.2.2.2.2.1 HX.out.2.2.2.2.2 _ ((Same.refl _).some P14.out.1) ((Same.refl _).some P14.out.2)).mono ?_
        rintro e y6 ⟨g15, rfl, l15, b6⟩
        have L15 := Lib.hid l15
        have D6 := Lib.hid b6
        have B6 := Lib.hid (below_call B5.out b6)
        have S6 := Lib.hid (Same.of b6)
        clear l15 b6
        go_wp2_with fail
        refine hK.out _ _ ?_ (fun hHeld => ?_)
        ·exact HC.out _ B6.out
        clear hK K
        (try simp only [Act.put, List.setIfInBounds_toArray, List.set_cons_zero, List.set_cons_succ])
        refine wpAnyH_ready (rs := [16]) (by kernel_rfl) (by simp) ?_
        refine AllReadyH.cons (o := qo16) rfl (fun K hK => ?_) ?_
        ·unfold qo16; go_simp
         obtain ⟨y7, hy7⟩ : ∃ z, z = y6.alloc (.cells #[.slice (some ⟨g0, 0, none⟩) 8 8, .slice (some ⟨g9, 0, none⟩) 8 8, .slice (some ⟨g15, 0, none⟩) 16 16] 22) := ⟨_, rfl⟩
         obtain ⟨g16, hg16⟩ : ∃ z, z = y6.heap.size := ⟨_, rfl⟩
         have D7 := Lib.hid (show Below y6.heap.size y6 y7 from by rw [hy7]; exact below_new _ _)
         have B7 := Lib.hid (below_call B6.out D7.out)
         have S7 := Lib.hid (Same.of D7.out)
         have P16 := Lib.hid (show y7.cell? ⟨g16, 0, none⟩ = _ ∧ y7.cell? ⟨g16, 1, none⟩ = _ ∧ y7.cell? ⟨g16, 2, none⟩ = _ from by rw [hy7, hg16]; exact three_cells _ _ _ _)
         rw [← hg16, ← hy7]
         clear hy7 hg16
         refine hK.out _ _ ?_ (fun hHeld => ?_)
         ·exact HC.out _ B7.out
         clear hK K
         (try simp only [Act.put, List.setIfInBounds_toArray, List.set_cons_zero, List.set_cons_succ])
         refine wpAnyH_ready (rs := [17]) (by kernel_rfl) (by simp) ?_
         refine AllReadyH.cons (o := qo17) rfl (fun K hK => ?_) ?_
         ·unfold qo17; go_simp
          refine (join8 p k o n _ g16 y7.heap.size g0 g9 g15 rfl P16.out (L0.out.keep (((S4.out.trans S5.out).trans S6.out).trans S7.out).cell) (L9.out.keep ((((S3.out.trans S4.out).trans S5.out).trans S6.out).trans S7.out).cell) (L15.out.keep S7.out.cell)).mono ?_
          rintro e y8 ⟨rfl, o8, b8, z8⟩
          have B8 := Lib.hid (below_call B7.out b8)
          have Z := Lib.hid (show _ ∧ _ ∧ w1.heap.size ≤ y7.heap.size from And.intro o8 (And.intro z8 B7.out.size))
          clear o8 z8 b8
          generalize y7.heap.size = gf at *
          go_wp2_with fail
          refine hK.out _ _ ?_ (fun hHeld => ?_)
          ·exact HC.out _ B8.out
          clear hK K
          (try simp only [Act.put, List.setIfInBounds_toArray, List.set_cons_zero, List.set_cons_succ])
          refine wpAnyH_take (i := 18) (oi := qo18) (v := ?_) rfl (by kernel_rfl) (by kernel_rfl) (by kernel_rfl) (fun _ _ _ h => h) (Or.inl ⟨by rfl, ?_⟩) (by assumption) ?_
          rotate_left
          ·(intro w hSw; (try dsimp only at hSw); unfold qo18; go_simp) <;> with_reducible rfl
          unfold qo18; (try simp only [Act.put, List.setIfInBounds_toArray, List.set_cons_zero, List.set_cons_succ])
          refine wpAnyH_done (by kernel_rfl) ?_ _
          refine NoPanic.normal ?_
          go_wp2_with fail
          go_ret
          exact ⟨gf, rfl, fin8 BB.out.1 B8.out Z.out⟩
         exact AllReadyH.nil
        exact AllReadyH.nil
       exact AllReadyH.nil
      exact AllReadyH.nil
     refine AllReadyH.cons (o := qo14) rfl (fun K hK => ?_) ?_
     ·unfold qo14; go_simp
      obtain ⟨y4, hy4⟩ : ∃ z, z = y3.alloc (.cells #[.int .u64 (o : Int), .int .u64 (n : Int)] 28) := ⟨_, rfl⟩
      obtain ⟨g14, hg14⟩ : ∃ z, z = y3.heap.size := ⟨_, rfl⟩
      have D4 := Lib.hid (show Below y3.heap.size y3 y4 from by rw [hy4]; exact below_new _ _)
      have B4 := Lib.hid (below_call B3.out D4.out)
      have S4 := Lib.hid (Same.of D4.out)
      have P14 := Lib.hid (show y4.cell? ⟨g14, 0, none⟩ = _ ∧ y4.cell? ⟨g14, 1, none⟩ = _ from by rw [hy4, hg14]; exact pair_cells _ _ _)
      rw [← hg14, ← hy4]
      clear hy4 hg14
      refine hK.out _ _ ?_ (fun hHeld => ?_)
      ·exact HC.out _ B4.out
      clear hK K
      (try simp only [Act.put, List.setIfInBounds_toArray, List.set_cons_zero, List.set_cons_succ])
      refine wpAnyH_ready (rs := [1, 15]) (by kernel_rfl) (by simp) ?_
      refine AllReadyH.cons (o := qo1) rfl (fun K hK => ?_) ?_
      ·unfold qo1
       obtain ⟨y5, hcv, s5, t5⟩ := conv_mark y4 g0 8 8 _ ((D4.out.block g0 (by have := K0s.out; omega)).trans K0.out)
       have S5 := Lib.hid s5
       have B5 := Lib.hid (t5 _ _ B4.out K0s.out.2)
       clear s5 t5
       go_simp
       clear hcv
       refine hK.out _ _ ?_ (fun hHeld => ?_)
       ·exact HC.out _ B5.out
       clear hK K
       (try simp only [Act.put, List.setIfInBounds_toArray, List.set_cons_zero, List.set_cons_succ])
       refine wpAnyH_ready (rs := [15]) (by kernel_rfl) (by simp) ?_
       refine AllReadyH.cons (o := qo15) rfl (fun K hK => ?_) ?_
       ·unfold qo15; go_simp
        refine (bytes_two 8 16 (by omega) rfl (o : Int) (n : Int) o n g14 rfl rfl HX.out.2.2.2.2.1 HX.out.2.2.2.2.2 _ (S5.out.some P14.out.1) (S5.out.some P14.out.2)).mono ?_
        rintro e y6 ⟨g15, rfl, l15, b6⟩
        have L15 := Lib.hid l15
        have D6 := Lib.hid b6
        have B6 := Lib.hid (below_call B5.out b6)
        have S6 := Lib.hid (Same.of b6)
        clear l15 b6
        go_wp2_with fail
        refine hK.out _ _ ?_ (fun hHeld => ?_)
        ·exact HC.out _ B6.out
        clear hK K
        (try simp only [Act.put, List.setIfInBounds_toArray, List.set_cons_zero, List.set_cons_succ])
        refine wpAnyH_ready (rs := [16]) (by kernel_rfl) (by simp) ?_
        refine AllReadyH.cons (o := qo16) rfl (fun K hK => ?_) ?_
        ·unfold qo16; go_simp
         obtain ⟨y7, hy7⟩ : ∃ z, z = y6.alloc (.cells #[.slice (some ⟨g0, 0, none⟩) 8 8, .slice (some ⟨g9, 0, none⟩) 8 8, .slice (some ⟨g15, 0, none⟩) 16 16] 22) := ⟨_, rfl⟩
         obtain ⟨g16, hg16⟩ : ∃ z, z = y6.heap.size := ⟨_, rfl⟩
         have D7 := Lib.hid (show Below y6.heap.size y6 y7 from by rw [hy7]; exact below_new _ _)
         have B7 := Lib.hid (below_call B6.out D7.out)
         have S7 := Lib.hid (Same.of D7.out)
         have P16 := Lib.hid (show y7.cell? ⟨g16, 0, none⟩ = _ ∧ y7.cell? ⟨g16, 1, none⟩ = _ ∧ y7.cell? ⟨g16, 2, none⟩ = _ from by rw [hy7, hg16]; exact three_cells _ _ _ _)
         rw [← hg16, ← hy7]
         clear hy7 hg16
         refine hK.out _ _ ?_ (fun hHeld => ?_)
         ·exact HC.out _ B7.out
         clear hK K
         (try simp only [Act.put, List.setIfInBounds_toArray, List.set_cons_zero, List.set_cons_succ])
         refine wpAnyH_ready (rs := [17]) (by kernel_rfl) (by simp) ?_
         refine AllReadyH.cons (o := qo17) rfl (fun K hK => ?_) ?_
         ·unfold qo17; go_simp
          refine (join8 p k o n _ g16 y7.heap.size g0 g9 g15 rfl P16.out (L0.out.keep (((S4.out.trans S5.out).trans S6.out).trans S7.out).cell) (L9.out.keep ((((S3.out.trans S4.out).trans S5.out).trans S6.out).trans S7.out).cell) (L15.out.keep S7.out.cell)).mono ?_
          rintro e y8 ⟨rfl, o8, b8, z8⟩
          have B8 := Lib.hid (below_call B7.out b8)
          have Z := Lib.hid (show _ ∧ _ ∧ w1.heap.size ≤ y7.heap.size from And.intro o8 (And.intro z8 B7.out.size))
          clear o8 z8 b8
          generalize y7.heap.size = gf at *
          go_wp2_with fail
          refine hK.out _ _ ?_ (fun hHeld => ?_)
          ·exact HC.out _ B8.out
          clear hK K
          (try simp only [Act.put, List.setIfInBounds_toArray, List.set_cons_zero, List.set_cons_succ])
          refine wpAnyH_take (i := 18) (oi := qo18) (v := ?_) rfl (by kernel_rfl) (by kernel_rfl) (by kernel_rfl) (fun _ _ _ h => h) (Or.inl ⟨by rfl, ?_⟩) (by assumption) ?_
          rotate_left
          ·(intro w hSw; (try dsimp only at hSw); unfold qo18; go_simp) <;> with_reducible rfl
          unfold qo18; (try simp only [Act.put, List.setIfInBounds_toArray, List.set_cons_zero, List.set_cons_succ])
          refine wpAnyH_done (by kernel_rfl) ?_ _
          refine NoPanic.normal ?_
          go_wp2_with fail
          go_ret
          exact ⟨gf, rfl, fin8 BB.out.1 B8.out Z.out⟩
         exact AllReadyH.nil
        exact AllReadyH.nil
       exact AllReadyH.nil
      refine AllReadyH.cons (o := qo15) rfl (fun K hK => ?_) ?_
      ·unfold qo15; go_simp
       refine (bytes_two 8 16 (by omega) rfl (o : Int) (n : Int) o n g14 rfl rfl HX.out.2.2.2.2.1 HX.out.2.2.2.2.2 _ ((Same.refl _).some P14.out.1) ((Same.refl _).some P14.out.2)).mono ?_
       rintro e y5 ⟨g15, rfl, l15, b5⟩
       have L15 := Lib.hid l15
       have D5 := Lib.hid b5
       have B5 := Lib.hid (below_call B4.out b5)
       have S5 := Lib.hid (Same.of b5)
       clear l15 b5
       go_wp2_with fail
       refine hK.out _ _ ?_ (fun hHeld => ?_)
       ·exact HC.out _ B5.out
       clear hK K
       (try simp only [Act.put, List.setIfInBounds_toArray, List.set_cons_zero, List.set_cons_succ])
       refine wpAnyH_ready (rs := [1]) (by kernel_rfl) (by simp) ?_
       refine AllReadyH.cons (o := qo1) rfl (fun K hK => ?_) ?_
       ·unfold qo1
        obtain ⟨y6, hcv, s6, t6⟩ := conv_mark y5 g0 8 8 _ ((D5.out.block g0 (by have := K0s.out; have := D4.out.size; omega)).trans ((D4.out.block g0 (by have := K0s.out; omega)).trans K0.out))
        have S6 := Lib.hid s6
        have B6 := Lib.hid (t6 _ _ B5.out K0s.out.2)
        clear s6 t6
        go_simp
        clear hcv
        refine hK.out _ _ ?_ (fun hHeld => ?_)
        ·exact HC.out _ B6.out
        clear hK K
        (try simp only [Act.put, List.setIfInBounds_toArray, List.set_cons_zero, List.set_cons_succ])
        refine wpAnyH_ready (rs := [16]) (by kernel_rfl) (by simp) ?_
        refine AllReadyH.cons (o := qo16) rfl (fun K hK => ?_) ?_
        ·unfold qo16; go_simp
         obtain ⟨y7, hy7⟩ : ∃ z, z = y6.alloc (.cells #[.slice (some ⟨g0, 0, none⟩) 8 8, .slice (some ⟨g9, 0, none⟩) 8 8, .slice (some ⟨g15, 0, none⟩) 16 16] 22) := ⟨_, rfl⟩
         obtain ⟨g16, hg16⟩ : ∃ z, z = y6.heap.size := ⟨_, rfl⟩
         have D7 := Lib.hid (show Below y6.heap.size y6 y7 from by rw [hy7]; exact below_new _ _)
         have B7 := Lib.hid (below_call B6.out D7.out)
         have S7 := Lib.hid (Same.of D7.out)
         have P16 := Lib.hid (show y7.cell? ⟨g16, 0, none⟩ = _ ∧ y7.cell? ⟨g16, 1, none⟩ = _ ∧ y7.cell? ⟨g16, 2, none⟩ = _ from by rw [hy7, hg16]; exact three_cells _ _ _ _)
         rw [← hg16, ← hy7]
         clear hy7 hg16
         refine hK.out _ _ ?_ (fun hHeld => ?_)
         ·exact HC.out _ B7.out
         clear hK K
         (try simp only [Act.put, List.setIfInBounds_toArray, List.set_cons_zero, List.set_cons_succ])
         refine wpAnyH_ready (rs := [17]) (by kernel_rfl) (by simp) ?_
         refine AllReadyH.cons (o := qo17) rfl (fun K hK => ?_) ?_
         ·unfold qo17; go_simp
          refine (join8 p k o n _ g16 y7.heap.size g0 g9 g15 rfl P16.out (L0.out.keep (((S4.out.trans S5.out).trans S6.out).trans S7.out).cell) (L9.out.keep ((((S3.out.trans S4.out).trans S5.out).trans S6.out).trans S7.out).cell) (L15.out.keep (S6.out.trans S7.out).cell)).mono ?_
          rintro e y8 ⟨rfl, o8, b8, z8⟩
          have B8 := Lib.hid (below_call B7.out b8)
          have Z := Lib.hid (show _ ∧ _ ∧ w1.heap.size ≤ y7.heap.size from And.intro o8 (And.intro z8 B7.out.size))
          clear o8 z8 b8
          generalize y7.heap.size = gf at *
          go_wp2_with fail
          refine hK.out _ _ ?_ (fun hHeld => ?_)
          ·exact HC.out _ B8.out
          clear hK K
          (try simp only [Act.put, List.setIfInBounds_toArray, List.set_cons_zero, List.set_cons_succ])
          refine wpAnyH_take (i := 18) (oi := qo18) (v := ?_) rfl (by kernel_rfl) (by kernel_rfl) (by kernel_rfl) (fun _ _ _ h => h) (Or.inl ⟨by rfl, ?_⟩) (by assumption) ?_
          rotate_left
          ·(intro w hSw; (try dsimp only at hSw); unfold qo18; go_simp) <;> with_reducible rfl
          unfold qo18; (try simp only [Act.put, List.setIfInBounds_toArray, List.set_cons_zero, List.set_cons_succ])
          refine wpAnyH_done (by kernel_rfl) ?_ _
          refine NoPanic.normal ?_
          go_wp2_with fail
          go_ret
          exact ⟨gf, rfl, fin8 BB.out.1 B8.out Z.out⟩
         exact AllReadyH.nil
        exact AllReadyH.nil
       exact AllReadyH.nil
      exact AllReadyH.nil
     exact AllReadyH.nil
    refine AllReadyH.cons (o := qo14) rfl (fun K hK => ?_) ?_
    ·unfold qo14; go_simp
     obtain ⟨y3, hy3⟩ : ∃ z, z = y2.alloc (.cells #[.int .u64 (o : Int), .int .u64 (n : Int)] 28) := ⟨_, rfl⟩
     obtain ⟨g14, hg14⟩ : ∃ z, z = y2.heap.size := ⟨_, rfl⟩
     have D3 := Lib.hid (show Below y2.heap.size y2 y3 from by rw [hy3]; exact below_new _ _)
     have B3 := Lib.hid (below_call B2.out D3.out)
     have S3 := Lib.hid (Same.of D3.out)
     have P14 := Lib.hid (show y3.cell? ⟨g14, 0, none⟩ = _ ∧ y3.cell? ⟨g14, 1, none⟩ = _ from by rw [hy3, hg14]; exact pair_cells _ _ _)
     rw [← hg14, ← hy3]
     clear hy3 hg14
     refine hK.out _ _ ?_ (fun hHeld => ?_)
     ·exact HC.out _ B3.out
     clear hK K
     (try simp only [Act.put, List.setIfInBounds_toArray, List.set_cons_zero, List.set_cons_succ])
     refine wpAnyH_ready (rs := [0, 15]) (by kernel_rfl) (by simp) ?_
     refine AllReadyH.cons (o := qo0) rfl (fun K hK => ?_) ?_
     ·unfold qo0; go_simp
      obtain ⟨y4, hy4⟩ : ∃ z, z = y3.alloc (.cells #[.int .u8 115, .int .u8 116, .int .u8 101, .int .u8 97, .int .u8 100, .int .u8 105, .int .u8 110, .int .u8 103] 5) := ⟨_, rfl⟩
      obtain ⟨g0, hg0⟩ : ∃ z, z = y3.heap.size := ⟨_, rfl⟩
      have D4 := Lib.hid (show Below y3.heap.size y3 y4 from by rw [hy4]; exact below_new _ _)
      have B4 := Lib.hid (below_call B3.out D4.out)
      have S4 := Lib.hid (Same.of D4.out)
      have L0 := Lib.hid (show Lies y4 (some ⟨g0, 0, none⟩) (u8s M.mark) from by rw [hy4, hg0]; exact mark_lies _)
      have K0 := Lib.hid (show y4.heap[g0]? = some (.cells #[.int .u8 115, .int .u8 116, .int .u8 101, .int .u8 97, .int .u8 100, .int .u8 105, .int .u8 110, .int .u8 103] 5) from by rw [hy4, hg0]; exact at_new_block _ _)
      have K0s := Lib.hid (show g0 < y4.heap.size ∧ w1.heap.size ≤ g0 from ⟨by rw [hy4, hg0]; simp, by rw [hg0]; exact B3.out.size⟩)
      rw [← hg0, ← hy4]
      clear hy4 hg0
      refine hK.out _ _ ?_ (fun hHeld => ?_)
      ·exact HC.out _ B4.out
      clear hK K
      (try simp only [Act.put, List.setIfInBounds_toArray, List.set_cons_zero, List.set_cons_succ])
      refine wpAnyH_ready (rs := [1, 15]) (by kernel_rfl) (by simp) ?_
      refine AllReadyH.cons (o := qo1) rfl (fun K hK => ?_) ?_
      ·unfold qo1
       obtain ⟨y5, hcv, s5, t5⟩ := conv_mark y4 g0 8 8 _ K0.out
       have S5 := Lib.hid s5
       have B5 := Lib.hid (t5 _ _ B4.out K0s.out.2)
       clear s5 t5
       go_simp
       clear hcv
       refine hK.out _ _ ?_ (fun hHeld => ?_)
       ·exact HC.out _ B5.out
       clear hK K
       (try simp only [Act.put, List.setIfInBounds_toArray, List.set_cons_zero, List.set_cons_succ])
       refine wpAnyH_ready (rs := [15]) (by kernel_rfl) (by simp) ?_
       refine AllReadyH.cons (o := qo15) rfl (fun K hK => ?_) ?_
       ·unfold qo15; go_simp
        refine (bytes_two 8 16 (by omega) rfl (o : Int) (n : Int) o n g14 rfl rfl HX.out.2.2.2.2.1 HX.out.2.2.2.2.2 _ ((S4.out.trans S5.out).some P14.out.1) ((S4.out.trans S5.out).some P14.out.2)).mono ?_
        rintro e y6 ⟨g15, rfl, l15, b6⟩
        have L15 := Lib.hid l15
        have D6 := Lib.hid b6
        have B6 := Lib.hid (below_call B5.out b6)
        have S6 := Lib.hid (Same.of b6)
        clear l15 b6
        go_wp2_with fail
        refine hK.out _ _ ?_ (fun hHeld => ?_)
        ·exact HC.out _ B6.out
        clear hK K
        (try simp only [Act.put, List.setIfInBounds_toArray, List.set_cons_zero, List.set_cons_succ])
        refine wpAnyH_ready (rs := [16]) (by kernel_rfl) (by simp) ?_
        refine AllReadyH.cons (o := qo16) rfl (fun K hK => ?_) ?_
        ·unfold qo16; go_simp
         obtain ⟨y7, hy7⟩ : ∃ z, z = y6.alloc (.cells #[.slice (some ⟨g0, 0, none⟩) 8 8, .slice (some ⟨g9, 0, none⟩) 8 8, .slice (some ⟨g15, 0, none⟩) 16 16] 22) := ⟨_, rfl⟩
         obtain ⟨g16, hg16⟩ : ∃ z, z = y6.heap.size := ⟨_, rfl⟩
         have D7 := Lib.hid (show Below y6.heap.size y6 y7 from by rw [hy7]; exact below_new _ _)
         have B7 := Lib.hid (below_call B6.out D7.out)
         have S7 := Lib.hid (Same.of D7.out)
         have P16 := Lib.hid (show y7.cell? ⟨g16, 0, none⟩ = _ ∧ y7.cell? ⟨g16, 1, none⟩ = _ ∧ y7.cell? ⟨g16, 2, none⟩ = _ from by rw [hy7, hg16]; exact three_cells _ _ _ _)
         rw [← hg16, ← hy7]
         clear hy7 hg16
         refine hK.out _ _ ?_ (fun hHeld => ?_)
         ·exact HC.out _ B7.out
         clear hK K
         (try simp only [Act.put, List.setIfInBounds_toArray, List.set_cons_zero, List.set_cons_succ])
         refine wpAnyH_ready (rs := [17]) (by kernel_rfl) (by simp) ?_
         refine AllReadyH.cons (o := qo17) rfl (fun K hK => ?_) ?_
         ·unfold qo17; go_simp
          refine (join8 p k o n _ g16 y7.heap.size g0 g9 g15 rfl P16.out (L0.out.keep ((S5.out.trans S6.out).trans S7.out).cell) (L9.out.keep ((((S3.out.trans S4.out).trans S5.out).trans S6.out).trans S7.out).cell) (L15.out.keep S7.out.cell)).mono ?_
          rintro e y8 ⟨rfl, o8, b8, z8⟩
          have B8 := Lib.hid (below_call B7.out b8)
          have Z := Lib.hid (show _ ∧ _ ∧ w1.heap.size ≤ y7.heap.size from And.intro o8 (And.intro z8 B7.out.size))
          clear o8 z8 b8
          generalize y7.heap.size = gf at *
          go_wp2_with fail
          refine hK.out _ _ ?_ (fun hHeld => ?_)
          ·exact HC.out _ B8.out
          clear hK K
          (try simp only [Act.put, List.setIfInBounds_toArray, List.set_cons_zero, List.set_cons_succ])
          refine wpAnyH_take (i := 18) (oi := qo18) (v := ?_) rfl (by kernel_rfl) (by kernel_rfl) (by kernel_rfl) (fun _ _ _ h => h) (Or.inl ⟨by rfl, ?_⟩) (by assumption) ?_
          rotate_left
          ·(intro w hSw; (try dsimp only at hSw); unfold qo18; go_simp) <;> with_reducible rfl
          unfold qo18; (try simp only [Act.put, List.setIfInBounds_toArray, List.set_cons_zero, List.set_cons_succ])
          refine wpAnyH_done (by kernel_rfl) ?_ _
          refine NoPanic.normal ?_
          go_wp2_with fail
          go_ret
          exact ⟨gf, rfl, fin8 BB.out.1 B8.out Z.out⟩
         exact AllReadyH.nil
        exact AllReadyH.nil
       exact AllReadyH.nil
      refine AllReadyH.cons (o := qo15) rfl (fun K hK => ?_) ?_
      ·unfold qo15; go_simp
       refine (bytes_two 8 16 (by omega) rfl (o : Int) (n : Int) o n g14 rfl rfl HX.out.2.2.2.2.1 HX.out.2.2.2.2.2 _ (S4.out.some P14.out.1) (S4.out.some P14.out.2)).mono ?_
       rintro e y5 ⟨g15, rfl, l15, b5⟩
       have L15 := Lib.hid l15
       have D5 := Lib.hid b5
       have B5 := Lib.hid (below_call B4.out b5)
       have S5 := Lib.hid (Same.of b5)
       clear l15 b5
       go_wp2_with fail
       refine hK.out _ _ ?_ (fun hHeld => ?_)
       ·exact HC.out _ B5.out
       clear hK K
       (try simp only [Act.put, List.setIfInBounds_toArray, List.set_cons_zero, List.set_cons_succ])
       refine wpAnyH_ready (rs := [1]) (by kernel_rfl) (by simp) ?_
       refine AllReadyH.cons (o := qo1) rfl (fun K hK => ?_) ?_
       ·unfold qo1
        obtain ⟨y6, hcv, s6, t6⟩ := conv_mark y5 g0 8 8 _ ((D5.out.block g0 (by have := K0s.out; omega)).trans K0.out)
        have S6 := Lib.hid s6
        have B6 := Lib.hid (t6 _ _ B5.out K0s.out.2)
        clear s6 t6
        go_simp
        clear hcv
        refine hK.out _ _ ?_ (fun hHeld => ?_)
        ·exact HC.out _ B6.out
        clear hK K
        (try simp only [Act.put, List.setIfInBounds_toArray, List.set_cons_zero, List.set_cons_succ])
        refine wpAnyH_ready (rs := [16]) (by kernel_rfl) (by simp) ?_
        refine AllReadyH.cons (o := qo16) rfl (fun K hK => ?_) ?_
        ·unfold qo16; go_simp
         obtain ⟨y7, hy7⟩ : ∃ z, z = y6.alloc (.cells #[.slice (some ⟨g0, 0, none⟩) 8 8, .slice (some ⟨g9, 0, none⟩) 8 8, .slice (some ⟨g15, 0, none⟩) 16 16] 22) := ⟨_, rfl⟩
         obtain ⟨g16, hg16⟩ : ∃ z, z = y6.heap.size := ⟨_, rfl⟩
         have D7 := Lib.hid (show Below y6.heap.size y6 y7 from by rw [hy7]; exact below_new _ _)
         have B7 := Lib.hid (below_call B6.out D7.out)
         have S7 := Lib.hid (Same.of D7.out)
         have P16 := Lib.hid (show y7.cell? ⟨g16, 0, none⟩ = _ ∧ y7.cell? ⟨g16, 1, none⟩ = _ ∧ y7.cell? ⟨g16, 2, none⟩ = _ from by rw [hy7, hg16]; exact three_cells _ _ _ _)
         rw [← hg16, ← hy7]
         clear hy7 hg16
         refine hK.out _ _ ?_ (fun hHeld => ?_)
         ·exact HC.out _ B7.out
         clear hK K
         (try simp only [Act.put, List.setIfInBounds_toArray, List.set_cons_zero, List.set_cons_succ])
         refine wpAnyH_ready (rs := [17]) (by kernel_rfl) (by simp) ?_
         refine AllReadyH.cons (o := qo17) rfl (fun K hK => ?_) ?_
         ·unfold qo17; go_simp
          refine (join8 p k o n _ g16 y7.heap.size g0 g9 g15 rfl P16.out (L0.out.keep ((S5.out.trans S6.out).trans S7.out).cell) (L9.out.keep ((((S3.out.trans S4.out).trans S5.out).trans S6.out).trans S7.out).cell) (L15.out.keep (S6.out.trans S7.out).cell)).mono ?_
          rintro e y8 ⟨rfl, o8, b8, z8⟩
          have B8 := Lib.hid (below_call B7.out b8)
          have Z := Lib.hid (show _ ∧ _ ∧ w1.heap.size ≤ y7.heap.size from And.intro o8 (And.intro z8 B7.out.size))
          clear o8 z8 b8
          generalize y7.heap.size = gf at *
          go_wp2_with fail
          refine hK.out _ _ ?_ (fun hHeld => ?_)
          ·exact HC.out _ B8.out
          clear hK K
          (try simp only [Act.put, List.setIfInBounds_toArray, List.set_cons_zero, List.set_cons_succ])
          refine wpAnyH_take (i := 18) (oi := qo18) (v := ?_) rfl (by kernel_rfl) (by kernel_rfl) (by kernel_rfl) (fun _ _ _ h => h) (Or.inl ⟨by rfl, ?_⟩) (by assumption) ?_
          rotate_left
          ·(intro w hSw; (try dsimp only at hSw); unfold qo18; go_simp) <;> with_reducible rfl
          unfold qo18; (try simp only [Act.put, List.setIfInBounds_toArray, List.set_cons_zero, List.set_cons_succ])
          refine wpAnyH_done (by kernel_rfl) ?_ _
          refine NoPanic.normal ?_
          go_wp2_with fail
          go_ret
          exact ⟨gf, rfl, fin8 BB.out.1 B8.out Z.out⟩
         exact AllReadyH.nil
        exact AllReadyH.nil
       exact AllReadyH.nil
      exact AllReadyH.nil
     refine AllReadyH.cons (o := qo15) rfl (fun K hK => ?_) ?_
     ·unfold qo15; go_simp
      refine (bytes_two 8 16 (by omega) rfl (o : Int) (n : Int) o n g14 rfl rfl HX.out.2.2.2.2.1 HX.out.2.2.2.2.2 _ ((Same.refl _).some P14.out.1) ((Same.refl _).some P14.out.2)).mono ?_
      rintro e y4 ⟨g15, rfl, l15, b4⟩
      have L15 := Lib.hid l15
      have D4 := Lib.hid b4
      have B4 := Lib.hid (below_call B3.out b4)
      have S4 := Lib.hid (Same.of b4)
      clear l15 b4
      go_wp2_with fail
      refine hK.out _ _ ?_ (fun hHeld => ?_)
      ·exact HC.out _ B4.out
      clear hK K
      (try simp only [Act.put, List.setIfInBounds_toArray, List.set_cons_zero, List.set_cons_succ])
      refine wpAnyH_ready (rs := [0]) (by kernel_rfl) (by simp) ?_
      refine AllReadyH.cons (o := qo0) rfl (fun K hK => ?_) ?_
      ·unfold qo0; go_simp
       obtain ⟨y5, hy5⟩ : ∃ z, z = y4.alloc (.cells #[.int .u8 115, .int .u8 116, .int .u8 101, .int .u8 97, .int .u8 100, .int .u8 105, .int .u8 110, .int .u8 103] 5) := ⟨_, rfl⟩
       obtain ⟨g0, hg0⟩ : ∃ z, z = y4.heap.size := ⟨_, rfl⟩
       have D5 := Lib.hid (show Below y4.heap.size y4 y5 from by rw [hy5]; exact below_new _ _)
       have B5 := Lib.hid (below_call B4.out D5.out)
       have S5 := Lib.hid (Same.of D5.out)
       have L0 := Lib.hid (show Lies y5 (some ⟨g0, 0, none⟩) (u8s M.mark) from by rw [hy5, hg0]; exact mark_lies _)
       have K0 := Lib.hid (show y5.heap[g0]? = some (.cells #[.int .u8 115, .int .u8 116, .int .u8 101, .int .u8 97, .int .u8 100, .int .u8 105, .int .u8 110, .int .u8 103] 5) from by rw [hy5, hg0]; exact at_new_block _ _)
       have K0s := Lib.hid (show g0 < y5.heap.size ∧ w1.heap.size ≤ g0 from ⟨by rw [hy5, hg0]; simp, by rw [hg0]; exact B4.out.size⟩)
       rw [← hg0, ← hy5]
       clear hy5 hg0
       refine hK.out _ _ ?_ (fun hHeld => ?_)
       ·exact HC.out _ B5.out
       clear hK K
       (try simp only [Act.put, List.setIfInBounds_toArray, List.set_cons_zero, List.set_cons_succ])
       refine wpAnyH_ready (rs := [1]) (by kernel_rfl) (by simp) ?_
       refine AllReadyH.cons (o := qo1) rfl (fun K hK => ?_) ?_
       ·unfold qo1
        obtain ⟨y6, hcv, s6, t6⟩ := conv_mark y5 g0 8 8 _ K0.out
        have S6 := Lib.hid s6
        have B6 := Lib.hid (t6 _ _ B5.out K0s.out.2)
        clear s6 t6
        go_simp
        clear hcv
        refine hK.out _ _ ?_ (fun hHeld => ?_)
        ·exact HC.out _ B6.out
        clear hK K
        (try simp only [Act.put, List.setIfInBounds_toArray, List.set_cons_zero, List.set_cons_succ])
        refine wpAnyH_ready (rs := [16]) (by kernel_rfl) (by simp) ?_
        refine AllReadyH.cons (o := qo16) rfl (fun K hK => ?_) ?_
        ·unfold qo16; go_simp
         obtain ⟨y7, hy7⟩ : ∃ z, z = y6.alloc (.cells #[.slice (some ⟨g0, 0, none⟩) 8 8, .slice (some ⟨g9, 0, none⟩) 8 8, .slice (some ⟨g15, 0, none⟩) 16 16] 22) := ⟨_, rfl⟩
         obtain ⟨g16, hg16⟩ : ∃ z, z = y6.heap.size := ⟨_, rfl⟩
         have D7 := Lib.hid (show Below y6.heap.size y6 y7 from by rw [hy7]; exact below_new _ _)
         have B7 := Lib.hid (below_call B6.out D7.out)
         have S7 := Lib.hid (Same.of D7.out)
         have P16 := Lib.hid (show y7.cell? ⟨g16, 0, none⟩ = _ ∧ y7.cell? ⟨g16, 1, none⟩ = _ ∧ y7.cell? ⟨g16, 2, none⟩ = _ from by rw [hy7, hg16]; exact three_cells _ _ _ _)
         rw [← hg16, ← hy7]
         clear hy7 hg16
         refine hK.out _ _ ?_ (fun hHeld => ?_)
         ·exact HC.out _ B7.out
         clear hK K
         (try simp only [Act.put, List.setIfInBounds_toArray, List.set_cons_zero, List.set_cons_succ])
         refine wpAnyH_ready (rs := [17]) (by kernel_rfl) (by simp) ?_
         refine AllReadyH.cons (o := qo17) rfl (fun K hK => ?_) ?_
         ·unfold qo17; go_simp
          refine (join8 p k o n _ g16 y7.heap.size g0 g9 g15 rfl P16.out (L0.out.keep (S6.out.trans S7.out).cell) (L9.out.keep ((((S3.out.trans S4.out).trans S5.out).trans S6.out).trans S7.out).cell) (L15.out.keep ((S5.out.trans S6.out).trans S7.out).cell)).mono ?_
          rintro e y8 ⟨rfl, o8, b8, z8⟩
          have B8 := Lib.hid (below_call B7.out b8)
          have Z := Lib.hid (show _ ∧ _ ∧ w1.heap.size ≤ y7.heap.size from And.intro o8 (And.intro z8 B7.out.size))
          clear o8 z8 b8
          generalize y7.heap.size = gf at *
          go_wp2_with fail
          refine hK.out _ _ ?_ (fun hHeld => ?_)
          ·exact HC.out _ B8.out
          clear hK K
          (try simp only [Act.put, List.setIfInBounds_toArray, List.set_cons_zero, List.set_cons_succ])
          refine wpAnyH_take (i := 18) (oi := qo18) (v := ?_) rfl (by kernel_rfl) (by kernel_rfl) (by kernel_rfl) (fun _ _ _ h => h) (Or.inl ⟨by rfl, ?_⟩) (by assumption) ?_
          rotate_left
          ·(intro w hSw; (try dsimp only at hSw); unfold qo18; go_simp) <;> with_reducible rfl
          unfold qo18; (try simp only [Act.put, List.setIfInBounds_toArray, List.set_cons_zero, List.set_cons_succ])
          refine wpAnyH_done (by kernel_rfl) ?_ _
          refine NoPanic.normal ?_
          go_wp2_with fail
          go_ret
          exact ⟨gf, rfl, fin8 BB.out.1 B8.out Z.out⟩
         exact AllReadyH.nil
        exact AllReadyH.nil
       exact AllReadyH.nil
      exact AllReadyH.nil
     exact AllReadyH.nil
    exact AllReadyH.nil
   refine AllReadyH.cons (o := qo14) rfl (fun K hK => ?_) ?_
   ·unfold qo14; go_simp
    obtain ⟨y2, hy2⟩ : ∃ z, z = y1.alloc (.cells #[.int .u64 (o : Int), .int .u64 (n : Int)] 28) := ⟨_, rfl⟩
    obtain ⟨g14, hg14⟩ : ∃ z, z = y1.heap.size := ⟨_, rfl⟩
    have D2 := Lib.hid (show Below y1.heap.size y1 y2 from by rw [hy2]; exact below_new _ _)
    have B2 := Lib.hid (below_call B1.out D2.out)
    have S2 := Lib.hid (Same.of D2.out)
    have P14 := Lib.hid (show y2.cell? ⟨g14, 0, none⟩ = _ ∧ y2.cell? ⟨g14, 1, none⟩ = _ from by rw [hy2, hg14]; exact pair_cells _ _ _)
    rw [← hg14, ← hy2]
    clear hy2 hg14
    refine hK.out _ _ ?_ (fun hHeld => ?_)
    ·exact HC.out _ B2.out
    clear hK K
    (try simp only [Act.put, List.setIfInBounds_toArray, List.set_cons_zero, List.set_cons_succ])
    refine wpAnyH_ready (rs := [0, 9]) (by kernel_rfl) (by simp) ?_
    refine AllReadyH.cons (o := qo0) rfl (fun K hK => ?_) ?_
    ·unfold qo0; go_simp
     obtain ⟨y3, hy3⟩ : ∃ z, z = y2.alloc (.cells #[.int .u8 115, .int .u8 116, .int .u8 101, .int .u8 97, .int .u8 100, .int .u8 105, .int .u8 110, .int .u8 103] 5) := ⟨_, rfl⟩
     obtain ⟨g0, hg0⟩ : ∃ z, z = y2.heap.size := ⟨_, rfl⟩
     have D3 := Lib.hid (show Below y2.heap.size y2 y3 from by rw [hy3]; exact below_new _ _)
     have B3 := Lib.hid (below_call B2.out D3.out)
     have S3 := Lib.hid (Same.of D3.out)
     have L0 := Lib.hid (show Lies y3 (some ⟨g0, 0, none⟩) (u8s M.mark) from by rw [hy3, hg0]; exact mark_lies _)
     have K0 := Lib.hid (show y3.heap[g0]? = some (.cells #[.int .u8 115, .int .u8 116, .int .u8 101, .int .u8 97, .int .u8 100, .int .u8 105, .int .u8 110, .int .u8 103] 5) from by rw [hy3, hg0]; exact at_new_block _ _)
     have K0s := Lib.hid (show g0 < y3.heap.size ∧ w1.heap.size ≤ g0 from ⟨by rw [hy3, hg0]; simp, by rw [hg0]; exact B2.out.size⟩)
     rw [← hg0, ← hy3]
     clear hy3 hg0
     refine hK.out _ _ ?_ (fun hHeld => ?_)
     ·exact HC.out _ B3.out
     clear hK K
     (try simp only [Act.put, List.setIfInBounds_toArray, List.set_cons_zero, List.set_cons_succ])
     refine wpAnyH_ready (rs := [1, 9]) (by kernel_rfl) (by simp) ?_
     refine AllReadyH.cons (o := qo1) rfl (fun K hK => ?_) ?_
     ·unfold qo1
      obtain ⟨y4, hcv, s4, t4⟩ := conv_mark y3 g0 8 8 _ K0.out
      have S4 := Lib.hid s4
      have B4 := Lib.hid (t4 _ _ B3.out K0s.out.2)
      clear s4 t4
      go_simp
      clear hcv
      refine hK.out _ _ ?_ (fun hHeld => ?_)
      ·exact HC.out _ B4.out
      clear hK K
      (try simp only [Act.put, List.setIfInBounds_toArray, List.set_cons_zero, List.set_cons_succ])
      refine wpAnyH_ready (rs := [9]) (by kernel_rfl) (by simp) ?_
      refine AllReadyH.cons (o := qo9) rfl (fun K hK => ?_) ?_
      ·unfold qo9; go_simp
       refine (bytes_two 4 8 (by omega) rfl x y p k g8 HX.out.1 HX.out.2.1 (by have := HX.out; omega) (by have := HX.out; omega) _ (((S2.out.trans S3.out).trans S4.out).some P8.out.1) (((S2.out.trans S3.out).trans S4.out).some P8.out.2)).mono ?_
       rintro e y5 ⟨g9, rfl, l9, b5⟩
       have L9 := Lib.hid l9
       have D5 := Lib.hid b5
       have B5 := Lib.hid (below_call B4.out b5)
       have S5 := Lib.hid (Same.of b5)
       clear l9 b5
       go_wp2_with fail
       refine hK.out _ _ ?_ (fun hHeld => ?_)
       ·exact HC.out _ B5.out
       clear hK K
       (try simp only [Act.put, List.setIfInBounds_toArray, List.set_cons_zero, List.set_cons_succ])
       refine wpAnyH_ready (rs := [15]) (by kernel_rfl) (by simp) ?_
       refine AllReadyH.cons (o := qo15) rfl (fun K hK => ?_) ?_
       ·unfold qo15; go_simp
        refine (bytes_two 8 16 (by omega) rfl (o : Int) (n : Int) o n g14 rfl rfl HX.out.2.2.2.2.1 HX.out.2.2.2.2.2 _ (((S3.out.trans S4.out).trans S5.out).some P14.out.1) (((S3.out.trans S4.out).trans S5.out).some P14.out.2)).mono ?_
        rintro e y6 ⟨g15, rfl, l15, b6⟩
        have L15 := Lib.hid l15
        have D6 := Lib.hid b6
        have B6 := Lib.hid (below_call B5.out b6)
        have S6 := Lib.hid (Same.of b6)
        clear l15 b6
        go_wp2_with fail
        refine hK.out _ _ ?_ (fun hHeld => ?_)
        ·exact HC.out _ B6.out
        clear hK K
        (try simp only [Act.put, List.setIfInBounds_toArray, List.set_cons_zero, List.set_cons_succ])
        refine wpAnyH_ready (rs := [16]) (by kernel_rfl) (by simp) ?_
        refine AllReadyH.cons (o := qo16) rfl (fun K hK => ?_) ?_
        ·unfold qo16; go_simp
         obtain ⟨y7, hy7⟩ : ∃ z, z = y6.alloc (.cells #[.slice (some ⟨g0, 0, none⟩) 8 8, .slice (some ⟨g9, 0, none⟩) 8 8, .slice (some ⟨g15, 0, none⟩) 16 16] 22) := ⟨_, rfl⟩
         obtain ⟨g16, hg16⟩ : ∃ z, z = y6.heap.size := ⟨_, rfl⟩
         have D7 := Lib.hid (show Below y6.heap.size y6 y7 from by rw [hy7]; exact below_new _ _)
         have B7 := Lib.hid (below_call B6.out D7.out)
         have S7 := Lib.hid (Same.of D7.out)
         have P16 := Lib.hid (show y7.cell? ⟨g16, 0, none⟩ = _ ∧ y7.cell? ⟨g16, 1, none⟩ = _ ∧ y7.cell? ⟨g16, 2, none⟩ = _ from by rw [hy7, hg16]; exact three_cells _ _ _ _)
         rw [← hg16, ← hy7]
         clear hy7 hg16
         refine hK.out _ _ ?_ (fun hHeld => ?_)
         ·exact HC.out _ B7.out
         clear hK K
         (try simp only [Act.put, List.setIfInBounds_toArray, List.set_cons_zero, List.set_cons_succ])
         refine wpAnyH_ready (rs := [17]) (by kernel_rfl) (by simp) ?_
         refine AllReadyH.cons (o := qo17) rfl (fun K hK => ?_) ?_
         ·unfold qo17; go_simp
          refine (join8 p k o n _ g16 y7.heap.size g0 g9 g15 rfl P16.out (L0.out.keep (((S4.out.trans S5.out).trans S6.out).trans S7.out).cell) (L9.out.keep (S6.out.trans S7.out).cell) (L15.out.keep S7.out.cell)).mono ?_
          rintro e y8 ⟨rfl, o8, b8, z8⟩
          have B8 := Lib.hid (below_call B7.out b8)
          have Z := Lib.hid (show _ ∧ _ ∧ w1.heap.size ≤ y7.heap.size from And.intro o8 (And.intro z8 B7.out.size))
          clear o8 z8 b8
          generalize y7.heap.size = gf at *
          go_wp2_with fail
          refine hK.out _ _ ?_ (fun hHeld => ?_)
          ·exact HC.out _ B8.out
          clear hK K
          (try simp only [Act.put, List.setIfInBounds_toArray, List.set_cons_zero, List.set_cons_succ])
          refine wpAnyH_take (i := 18) (oi := qo18) (v := ?_) rfl (by kernel_rfl) (by kernel_rfl) (by kernel_rfl) (fun _ _ _ h => h) (Or.inl ⟨by rfl, ?_⟩) (by assumption) ?_
          rotate_left
          ·(intro w hSw; (try dsimp only at hSw); unfold qo18; go_simp) <;> with_reducible rfl
          unfold qo18; (try simp only [Act.put, List.setIfInBounds_toArray, List.set_cons_zero, List.set_cons_succ])
          refine wpAnyH_done (by kernel_rfl) ?_ _
          refine NoPanic.normal ?_
          go_wp2_with fail
          go_ret
          exact ⟨gf, rfl, fin8 BB.out.1 B8.out Z.out⟩
         exact AllReadyH.nil
        exact AllReadyH.nil
       exact AllReadyH.nil
      exact AllReadyH.nil
     refine AllReadyH.cons (o := qo9) rfl (fun K hK => ?_) ?_
     ·unfold qo9; go_simp
      refine (bytes_two 4 8 (by omega) rfl x y p k g8 HX.out.1 HX.out.2.1 (by have := HX.out; omega) (by have := HX.out; omega) _ ((S2.out.trans S3.out).some P8.out.1) ((S2.out.trans S3.out).some P8.out.2)).mono ?_
      rintro e y4 ⟨g9, rfl, l9, b4⟩
      have L9 := Lib.hid l9
      have D4 := Lib.hid b4
      have B4 := Lib.hid (below_call B3.out b4)
      have S4 := Lib.hid (Same.of b4)
      clear l9 b4
      go_wp2_with fail
      refine hK.out _ _ ?_ (fun hHeld => ?_)
      ·exact HC.out _ B4.out
      clear hK K
      (try simp only [Act.put, List.setIfInBounds_toArray, List.set_cons_zero, List.set_cons_succ])
      refine wpAnyH_ready (rs := [1, 15]) (by kernel_rfl) (by simp) ?_
      refine AllReadyH.cons (o := qo1) rfl (fun K hK => ?_) ?_
      ·unfold qo1
       obtain ⟨y5, hcv, s5, t5⟩ := conv_mark y4 g0 8 8 _ ((D4.out.block g0 (by have := K0s.out; omega)).trans K0.out)
       have S5 := Lib.hid s5
       have B5 := Lib.hid (t5 _ _ B4.out K0s.out.2)
       clear s5 t5
       go_simp
       clear hcv
       refine hK.out _ _ ?_ (fun hHeld => ?_)
       ·exact HC.out _ B5.out
       clear hK K
       (try simp only [Act.put, List.setIfInBounds_toArray, List.set_cons_zero, List.set_cons_succ])
       refine wpAnyH_ready (rs := [15]) (by kernel_rfl) (by simp) ?_
       refine AllReadyH.cons (o := qo15) rfl (fun K hK => ?_) ?_
       ·unfold qo15; go_simp
        refine (bytes_two 8 16 (by omega) rfl (o : Int) (n : Int) o n g14 rfl rfl HX.out.2.2.2.2.1 HX.out.2.2.2.2.2 _ (((S3.out.trans S4.out).trans S5.out).some P14.out.1) (((S3.out.trans S4.out).trans S5.out).some P14.out.2)).mono ?_
        rintro e y6 ⟨g15, rfl, l15, b6⟩
        have L15 := Lib.hid l15
        have D6 := Lib.hid b6
        have B6 := Lib.hid (below_call B5.out b6)
        have S6 := Lib.hid (Same.of b6)
        clear l15 b6
        go_wp2_with fail
        refine hK.out _ _ ?_ (fun hHeld => ?_)
        ·exact HC.out _ B6.out
        clear hK K
        (try simp only [Act.put, List.setIfInBounds_toArray, List.set_cons_zero, List.set_cons_succ])
        refine wpAnyH_ready (rs := [16]) (by kernel_rfl) (by simp) ?_
        refine AllReadyH.cons (o := qo16) rfl (fun K hK => ?_) ?_
        ·unfold qo16; go_simp
         obtain ⟨y7, hy7⟩ : ∃ z, z = y6.alloc (.cells #[.slice (some ⟨g0, 0, none⟩) 8 8, .slice (some ⟨g9, 0, none⟩) 8 8, .slice (some ⟨g15, 0, none⟩) 16 16] 22) := ⟨_, rfl⟩
         obtain ⟨g16, hg16⟩ : ∃ z, z = y6.heap.size := ⟨_, rfl⟩
         have D7 := Lib.hid (show Below y6.heap.size y6 y7 from by rw [hy7]; exact below_new _ _)
         have B7 := Lib.hid (below_call B6.out D7.out)
         have S7 := Lib.hid (Same.of D7.out)
         have P16 := Lib.hid (show y7.cell? ⟨g16, 0, none⟩ = _ ∧ y7.cell? ⟨g16, 1, none⟩ = _ ∧ y7.cell? ⟨g16, 2, none⟩ = _ from by rw [hy7, hg16]; exact three_cells _ _ _ _)
         rw [← hg16, ← hy7]
         clear hy7 hg16
         refine hK.out _ _ ?_ (fun hHeld => ?_)
         ·exact HC.out _ B7.out
         clear hK K
         (try simp only [Act.put, List.setIfInBounds_toArray, List.set_cons_zero, List.set_cons_succ])
         refine wpAnyH_ready (rs := [17]) (by kernel_rfl) (by simp) ?_
         refine AllReadyH.cons (o := qo17) rfl (fun K hK => ?_) ?_
         ·unfold qo17; go_simp
          refine (join8 p k o n _ g16 y7.heap.size g0 g9 g15 rfl P16.out (L0.out.keep (((S4.out.trans S5.out).trans S6.out).trans S7.out).cell) (L9.out.keep ((S5.out.trans S6.out).trans S7.out).cell) (L15.out.keep S7.out.cell)).mono ?_
          rintro e y8 ⟨rfl, o8, b8, z8⟩
          have B8 := Lib.hid (below_call B7.out b8)
          have Z := Lib.hid (show _ ∧ _ ∧ w1.heap.size ≤ y7.heap.size from And.intro o8 (And.intro z8 B7.out.size))
          clear o8 z8 b8
          generalize y7.heap.size = gf at *
          go_wp2_with fail
          refine hK.out _ _ ?_ (fun hHeld => ?_)
          ·exact HC.out _ B8.out
          clear hK K
          (try simp only [Act.put, List.setIfInBounds_toArray, List.set_cons_zero, List.set_cons_succ])
          refine wpAnyH_take (i := 18) (oi := qo18) (v := ?_) rfl (by kernel_rfl) (by kernel_rfl) (by kernel_rfl) (fun _ _ _ h => h) (Or.inl ⟨by rfl, ?_⟩) (by assumption) ?_
          rotate_left
          ·(intro w hSw; (try dsimp only at hSw); unfold qo18; go_simp) <;> with_reducible rfl
          unfold qo18; (try simp only [Act.put, List.setIfInBounds_toArray, List.set_cons_zero, List.set_cons_succ])
          refine wpAnyH_done (by kernel_rfl) ?_ _
          refine NoPanic.normal ?_
          go_wp2_with fail
          go_ret
          exact ⟨gf, rfl, fin8 BB.out.1 B8.out Z.out⟩
         exact AllReadyH.nil
        exact AllReadyH.nil
       exact AllReadyH.nil
      refine AllReadyH.cons (o := qo15) rfl (fun K hK => ?_) ?_
      ·unfold qo15; go_simp
       refine (bytes_two 8 16 (by omega) rfl (o : Int) (n : Int) o n g14 rfl rfl HX.out.2.2.2.2.1 HX.out.2.2.2.2.2 _ ((S3.out.trans S4.out).some P14.out.1) ((S3.out.trans S4.out).some P14.out.2)).mono ?_
       rintro e y5 ⟨g15, rfl, l15, b5⟩
       have L15 := Lib.hid l15
       have D5 := Lib.hid b5
       have B5 := Lib.hid (below_call B4.out b5)
       have S5 := Lib.hid (Same.of b5)
       clear l15 b5
       go_wp2_with fail
       refine hK.out _ _ ?_ (fun hHeld => ?_)
       ·exact HC.out _ B5.out
       clear hK K
       (try simp only [Act.put, List.setIfInBounds_toArray, List.set_cons_zero, List.set_cons_succ])
       refine wpAnyH_ready (rs := [1]) (by kernel_rfl) (by simp) ?_
       refine AllReadyH.cons (o := qo1) rfl (fun K hK => ?_) ?_
       ·unfold qo1
        obtain ⟨y6, hcv, s6, t6⟩ := conv_mark y5 g0 8 8 _ ((D5.out.block g0 (by have := K0s.out; have := D4.out.size; omega)).trans ((D4.out.block g0 (by have := K0s.out; omega)).trans K0.out))
        have S6 := Lib.hid s6
        have B6 := Lib.hid (t6 _ _ B5.out K0s.out.2)
        clear s6 t6
        go_simp
        clear hcv
        refine hK.out _ _ ?_ (fun hHeld => ?_)
        ·exact HC.out _ B6.out
        clear hK K
        (try simp only [Act.put, List.setIfInBounds_toArray, List.set_cons_zero, List.set_cons_succ])
        refine wpAnyH_ready (rs := [16]) (by kernel_rfl) (by simp) ?_
        refine AllReadyH.cons (o := qo16) rfl (fun K hK => ?_) ?_
        ·unfold qo16; go_simp
         obtain ⟨y7, hy7⟩ : ∃ z, z = y6.alloc (.cells #[.slice (some ⟨g0, 0, none⟩) 8 8, .slice (some ⟨g9, 0, none⟩) 8 8, .slice (some ⟨g15, 0, none⟩) 16 16] 22) := ⟨_, rfl⟩
         obtain ⟨g16, hg16⟩ : ∃ z, z = y6.heap.size := ⟨_, rfl⟩
         have D7 := Lib.hid (show Below y6.heap.size y6 y7 from by rw [hy7]; exact below_new _ _)
         have B7 := Lib.hid (below_call B6.out D7.out)
         have S7 := Lib.hid (Same.of D7.out)
         have P16 := Lib.hid (show y7.cell? ⟨g16, 0, none⟩ = _ ∧ y7.cell? ⟨g16, 1, none⟩ = _ ∧ y7.cell? ⟨g16, 2, none⟩ = _ from by rw [hy7, hg16]; exact three_cells _ _ _ _)
         rw [← hg16, ← hy7]
         clear hy7 hg16
         refine hK.out _ _ ?_ (fun hHeld => ?_)
         ·exact HC.out _ B7.out
         clear hK K
         (try simp only [Act.put, List.setIfInBounds_toArray, List.set_cons_zero, List.set_cons_succ])
         refine wpAnyH_ready (rs := [17]) (by kernel_rfl) (by simp) ?_
         refine AllReadyH.cons (o := qo17) rfl (fun K hK => ?_) ?_
         ·unfold qo17; go_simp
          refine (join8 p k o n _ g16 y7.heap.size g0 g9 g15 rfl P16.out (L0.out.keep (((S4.out.trans S5.out).trans S6.out).trans S7.out).cell) (L9.out.keep ((S5.out.trans S6.out).trans S7.out).cell) (L15.out.keep (S6.out.trans S7.out).cell)).mono ?_
          rintro e y8 ⟨rfl, o8, b8, z8⟩
          have B8 := Lib.hid (below_call B7.out b8)
          have Z := Lib.hid (show _ ∧ _ ∧ w1.heap.size ≤ y7.heap.size from And.intro o8 (And.intro z8 B7.out.size))
          clear o8 z8 b8
          generalize y7.heap.size = gf at *
          go_wp2_with fail
          refine hK.out _ _ ?_ (fun hHeld => ?_)
          ·exact HC.out _ B8.out
          clear hK K
          (try simp only [Act.put, List.setIfInBounds_toArray, List.set_cons_zero, List.set_cons_succ])
          refine wpAnyH_take (i := 18) (oi := qo18) (v := ?_) rfl (by kernel_rfl) (by kernel_rfl) (by kernel_rfl) (fun _ _ _ h => h) (Or.inl ⟨by rfl, ?_⟩) (by assumption) ?_
          rotate_left
          ·(intro w hSw; (try dsimp only at hSw); unfold qo18; go_simp) <;> with_reducible rfl
          unfold qo18; (try simp only [Act.put, List.setIfInBounds_toArray, List.set_cons_zero, List.set_cons_succ])
          refine wpAnyH_done (by kernel_rfl) ?_ _
          refine NoPanic.normal ?_
          go_wp2_with fail
          go_ret
          exact ⟨gf, rfl, fin8 BB.out.1 B8.out Z.out⟩
         exact AllReadyH.nil
        exact AllReadyH.nil
       exact AllReadyH.nil
      exact AllReadyH.nil
     exact AllReadyH.nil
    refine AllReadyH.cons (o := qo9) rfl (fun K hK => ?_) ?_
    ·unfold qo9; go_simp
     refine (bytes_two 4 8 (by omega) rfl x y p k g8 HX.out.1 HX.out.2.1 (by have := HX.out; omega) (by have := HX.out; omega) _ (S2.out.some P8.out.1) (S2.out.some P8.out.2)).mono ?_
     rintro e y3 ⟨g9, rfl, l9, b3⟩
     have L9 := Lib.hid l9
     have D3 := Lib.hid b3
     have B3 := Lib.hid (below_call B2.out b3)
     have S3 := Lib.hid (Same.of b3)
     clear l9 b3
     go_wp2_with fail
     refine hK.out _ _ ?_ (fun hHeld => ?_)
     ·exact HC.out _ B3.out
     clear hK K
     (try simp only [Act.put, List.setIfInBounds_toArray, List.set_cons_zero, List.set_cons_succ])
     refine wpAnyH_ready (rs := [0, 15]) (by kernel_rfl) (by simp) ?_
     refine AllReadyH.cons (o := qo0) rfl (fun K hK => ?_) ?_
     ·unfold qo0; go_simp
      obtain ⟨y4, hy4⟩ : ∃ z, z = y3.alloc (.cells #[.int .u8 115, .int .u8 116, .int .u8 101, .int .u8 97, .int .u8 100, .int .u8 105, .int .u8 110, .int .u8 103] 5) := ⟨_, rfl⟩
      obtain ⟨g0, hg0⟩ : ∃ z, z = y3.heap.size := ⟨_, rfl⟩
      have D4 := Lib.hid (show Below y3.heap.size y3 y4 from by rw [hy4]; exact below_new _ _)
      have B4 := Lib.hid (below_call B3.out D4.out)
      have S4 := Lib.hid (Same.of D4.out)
      have L0 := Lib.hid (show Lies y4 (some ⟨g0, 0, none⟩) (u8s M.mark) from by rw [hy4, hg0]; exact mark_lies _)
      have K0 := Lib.hid (show y4.heap[g0]? = some (.cells #[.int .u8 115, .int .u8 116, .int .u8 101, .int .u8 97, .int .u8 100, .int .u8 105, .int .u8 110, .int .u8 103] 5) from by rw [hy4, hg0]; exact at_new_block _ _)
      have K0s := Lib.hid (show g0 < y4.heap.size ∧ w1.heap.size ≤ g0 from ⟨by rw [hy4, hg0]; simp, by rw [hg0]; exact B3.out.size⟩)
      rw [← hg0, ← hy4]
      clear hy4 hg0
      refine hK.out _ _ ?_ (fun hHeld => ?_)
      ·exact HC.out _ B4.out
      clear hK K
      (try simp only [Act.put, List.setIfInBounds_toArray, List.set_cons_zero, List.set_cons_succ])
      refine wpAnyH_ready (rs := [1, 15]) (by kernel_rfl) (by simp) ?_
      refine AllReadyH.cons (o := qo1) rfl (fun K hK => ?_) ?_
      ·unfold qo1
       obtain ⟨y5, hcv, s5, t5⟩ := conv_mark y4 g0 8 8 _ K0.out
       have S5 := Lib.hid s5
       have B5 := Lib.hid (t5 _ _ B4.out K0s.out.2)
       clear s5 t5
       go_simp
       clear hcv
       refine hK.out _ _ ?_ (fun hHeld => ?_)
       ·exact HC.out _ B5.out
       clear hK K
       (try simp only [Act.put, List.setIfInBounds_toArray, List.set_cons_zero, List.set_cons_succ])
       refine wpAnyH_ready (rs := [15]) (by kernel_rfl) (by simp) ?_
       refine AllReadyH.cons (o := qo15) rfl (fun K hK => ?_) ?_
       ·unfold qo15; go_simp
        refine (bytes_two 8 16 (by omega) rfl (o : Int) (n : Int) o n g14 rfl rfl HX.out.2.2.2.2.1 HX.out.2.2.2.2.2 _ (((S3.out.trans S4.out).trans S5.out).some P14.out.1) (((S3.out.trans S4.out).trans S5.out).some P14.out.2)).mono ?_
        rintro e y6 ⟨g15, rfl, l15, b6⟩
        have L15 := Lib.hid l15
        have D6 := Lib.hid b6
        have B6 := Lib.hid (below_call B5.out b6)
        have S6 := Lib.hid (Same.of b6)
        clear l15 b6
        go_wp2_with fail
        refine hK.out _ _ ?_ (fun hHeld => ?_)
        ·exact HC.out _ B6.out
        clear hK K
        (try simp only [Act.put, List.setIfInBounds_toArray, List.set_cons_zero, List.set_cons_succ])
        refine wpAnyH_ready (rs := [16]) (by kernel_rfl) (by simp) ?_
        refine AllReadyH.cons (o := qo16) rfl (fun K hK => ?_) ?_
        ·unfold qo16; go_simp
         obtain ⟨y7, hy7⟩ : ∃ z, z = y6.alloc (.cells #[.slice (some ⟨g0, 0, none⟩) 8 8, .slice (some ⟨g9, 0, none⟩) 8 8, .slice (some ⟨g15, 0, none⟩) 16 16] 22) := ⟨_, rfl⟩
         obtain ⟨g16, hg16⟩ : ∃ z, z = y6.heap.size := ⟨_, rfl⟩
         have D7 := Lib.hid (show Below y6.heap.size y6 y7 from by rw [hy7]; exact below_new _ _)
         have B7 := Lib.hid (below_call B6.out D7.out)
         have S7 := Lib.hid (Same.of D7.out)
         have P16 := Lib.hid (show y7.cell? ⟨g16, 0, none⟩ = _ ∧ y7.cell? ⟨g16, 1, none⟩ = _ ∧ y7.cell? ⟨g16, 2, none⟩ = _ from by rw [hy7, hg16]; exact three_cells _ _ _ _)
         rw [← hg16, ← hy7]
         clear hy7 hg16
         refine hK.out _ _ ?_ (fun hHeld => ?_)
         ·exact HC.out _ B7.out
         clear hK K
         (try simp only [Act.put, List.setIfInBounds_toArray, List.set_cons_zero, List.set_cons_succ])
         refine wpAnyH_ready (rs := [17]) (by kernel_rfl) (by simp) ?_
         refine AllReadyH.cons (o := qo17) rfl (fun K hK => ?_) ?_
         ·unfold qo17; go_simp
          refine (join8 p k o n _ g16 y7.heap.size g0 g9 g15 rfl P16.out (L0.out.keep ((S5.out.trans S6.out).trans S7.out).cell) (L9.out.keep (((S4.out.trans S5.out).trans S6.out).trans S7.out).cell) (L15.out.keep S7.out.cell)).mono ?_
          rintro e y8 ⟨rfl, o8, b8, z8⟩
          have B8 := Lib.hid (below_call B7.out b8)
          have Z := Lib.hid (show _ ∧ _ ∧ w1.heap.size ≤ y7.heap.size from And.intro o8 (And.intro z8 B7.out.size))
          clear o8 z8 b8
          generalize y7.heap.size = gf at *
          go_wp2_with fail
          refine hK.out _ _ ?_ (fun hHeld => ?_)
          ·exact HC.out _ B8.out
          clear hK K
          (try simp only [Act.put, List.setIfInBounds_toArray, List.set_cons_zero, List.set_cons_succ])
          refine wpAnyH_take (i := 18) (oi := qo18) (v := ?_) rfl (by kernel_rfl) (by kernel_rfl) (by kernel_rfl) (fun _ _ _ h => h) (Or.inl ⟨by rfl, ?_⟩) (by assumption) ?_
          rotate_left
          ·(intro w hSw; (try dsimp only at hSw); unfold qo18; go_simp) <;> with_reducible rfl
          unfold qo18; (try simp only [Act.put, List.setIfInBounds_toArray, List.set_cons_zero, List.set_cons_succ])
          refine wpAnyH_done (by kernel_rfl) ?_ _
          refine NoPanic.normal ?_
          go_wp2_with fail
          go_ret
          exact ⟨gf, rfl, fin8 BB.out.1 B8.out Z.out⟩
         exact AllReadyH.nil
        exact AllReadyH.nil
       exact AllReadyH.nil
      refine AllReadyH.cons (o := qo15) rfl (fun K hK => ?_) ?_
      ·unfold qo15; go_simp
       refine (bytes_two 8 16 (by omega) rfl (o : Int) (n : Int) o n g14 rfl rfl HX.out.2.2.2.2.1 HX.out.2.2.2.2.2 _ ((S3.out.trans S4.out).some P14.out.1) ((S3.out.trans S4.out).some P14.out.2)).mono ?_
       rintro e y5 ⟨g15, rfl, l15, b5⟩
       have L15 := Lib.hid l15
       have D5 := Lib.hid b5
       have B5 := Lib.hid (below_call B4.out b5)
       have S5 := Lib.hid (Same.of b5)
       clear l15 b5
       go_wp2_with fail
       refine hK.out _ _ ?_ (fun hHeld => ?_)
       ·exact HC.out _ B5.out
       clear hK K
       (try simp only [Act.put, List.setIfInBounds_toArray, List.set_cons_zero, List.set_cons_succ])
       refine wpAnyH_ready (rs := [1]) (by kernel_rfl) (by simp) ?_
       refine AllReadyH.cons (o := qo1) rfl (fun K hK => ?_) ?_
       ·unfold qo1
        obtain ⟨y6, hcv, s6, t6⟩ := conv_mark y5 g0 8 8 _ ((D5.out.block g0 (by have := K0s.out; omega)).trans K0.out)
        have S6 := Lib.hid s6
        have B6 := Lib.hid (t6 _ _ B5.out K0s.out.2)
        clear s6 t6
        go_simp
        clear hcv
        refine hK.out _ _ ?_ (fun hHeld => ?_)
        ·exact HC.out _ B6.out
        clear hK K
        (try simp only [Act.put, List.setIfInBounds_toArray, List.set_cons_zero, List.set_cons_succ])
        refine wpAnyH_ready (rs := [16]) (by kernel_rfl) (by simp) ?_
        refine AllReadyH.cons (o := qo16) rfl (fun K hK => ?_) ?_
        ·unfold qo16; go_simp
         obtain ⟨y7, hy7⟩ : ∃ z, z = y6.alloc (.cells #[.slice (some ⟨g0, 0, none⟩) 8 8, .slice (some ⟨g9, 0, none⟩) 8 8, .slice (some ⟨g15, 0, none⟩) 16 16] 22) := ⟨_, rfl⟩
         obtain ⟨g16, hg16⟩ : ∃ z, z = y6.heap.size := ⟨_, rfl⟩
         have D7 := Lib.hid (show Below y6.heap.size y6 y7 from by rw [hy7]; exact below_new _ _)
         have B7 := Lib.hid (below_call B6.out D7.out)
         have S7 := Lib.hid (Same.of D7.out)
         have P16 := Lib.hid (show y7.cell? ⟨g16, 0, none⟩ = _ ∧ y7.cell? ⟨g16, 1, none⟩ = _ ∧ y7.cell? ⟨g16, 2, none⟩ = _ from by rw [hy7, hg16]; exact three_cells _ _ _ _)
         rw [← hg16, ← hy7]
         clear hy7 hg16
         refine hK.out _ _ ?_ (fun hHeld => ?_)
         ·exact HC.out _ B7.out
         clear hK K
         (try simp only [Act.put, List.setIfInBounds_toArray, List.set_cons_zero, List.set_cons_succ])
         refine wpAnyH_ready (rs := [17]) (by kernel_rfl) (by simp) ?_
         refine AllReadyH.cons (o := qo17) rfl (fun K hK => ?_) ?_
         ·unfold qo17; go_simp
          refine (join8 p k o n _ g16 y7.heap.size g0 g9 g15 rfl P16.out (L0.out.keep ((S5.out.trans S6.out).trans S7.out).cell) (L9.out.keep (((S4.out.trans S5.out).trans S6.out).trans S7.out).cell) (L15.out.keep (S6.out.trans S7.out).cell)).mono ?_
          rintro e y8 ⟨rfl, o8, b8, z8⟩
          have B8 := Lib.hid (below_call B7.out b8)
          have Z := Lib.hid (show _ ∧ _ ∧ w1.heap.size ≤ y7.heap.size from And.intro o8 (And.intro z8 B7.out.size))
          clear o8 z8 b8
          generalize y7.heap.size = gf at *
          go_wp2_with fail
          refine hK.out _ _ ?_ (fun hHeld => ?_)
          ·exact HC.out _ B8.out
          clear hK K
          (try simp only [Act.put, List.setIfInBounds_toArray, List.set_cons_zero, List.set_cons_succ])
          refine wpAnyH_take (i := 18) (oi := qo18) (v := ?_) rfl (by kernel_rfl) (by kernel_rfl) (by kernel_rfl) (fun _ _ _ h => h) (Or.inl ⟨by rfl, ?_⟩) (by assumption) ?_
          rotate_left
          ·(intro w hSw; (try dsimp only at hSw); unfold qo18; go_simp) <;> with_reducible rfl
          unfold qo18; (try simp only [Act.put, List.setIfInBounds_toArray, List.set_cons_zero, List.set_cons_succ])
          refine wpAnyH_done (by kernel_rfl) ?_ _
          refine NoPanic.normal ?_
          go_wp2_with fail
          go_ret
          exact ⟨gf, rfl, fin8 BB.out.1 B8.out Z.out⟩
         exact AllReadyH.nil
        exact AllReadyH.nil
       exact AllReadyH.nil
      exact AllReadyH.nil
     refine AllReadyH.cons (o := qo15) rfl (fun K hK => ?_) ?_
     ·unfold qo15; go_simp
      refine (bytes_two 8 16 (by omega) rfl (o : Int) (n : Int) o n g14 rfl rfl HX.out.2.2.2.2.1 HX.out.2.2.2.2.2 _ (S3.out.some P14.out.1) (S3.out.some P14.out.2)).mono ?_
      rintro e y4 ⟨g15, rfl, l15, b4⟩
      have L15 := Lib.hid l15
      have D4 := Lib.hid b4
      have B4 := Lib.hid (below_call B3.out b4)
      have S4 := Lib.hid (Same.of b4)
      clear l15 b4
      go_wp2_with fail
      refine hK.out _ _ ?_ (fun hHeld => ?_)
      ·exact HC.out _ B4.out
      clear hK K
      (try simp only [Act.put, List.setIfInBounds_toArray, List.set_cons_zero, List.set_cons_succ])
      refine wpAnyH_ready (rs := [0]) (by kernel_rfl) (by simp) ?_
      refine AllReadyH.cons (o := qo0) rfl (fun K hK => ?_) ?_
      ·unfold qo0; go_simp
       obtain ⟨y5, hy5⟩ : ∃ z, z = y4.alloc (.cells #[.int .u8 115, .int .u8 116, .int .u8 101, .int .u8 97, .int .u8 100, .int .u8 105, .int .u8 110, .int .u8 103] 5) := ⟨_, rfl⟩
       obtain ⟨g0, hg0⟩ : ∃ z, z = y4.heap.size := ⟨_, rfl⟩
       have D5 := Lib.hid (show Below y4.heap.size y4 y5 from by rw [hy5]; exact below_new _ _)
       have B5 := Lib.hid (below_call B4.out D5.out)
       have S5 := Lib.hid (Same.of D5.out)
       have L0 := Lib.hid (show Lies y5 (some ⟨g0, 0, none⟩) (u8s M.mark) from by rw [hy5, hg0]; exact mark_lies _)
       have K0 := Lib.hid (show y5.heap[g0]? = some (.cells #[.int .u8 115, .int .u8 116, .int .u8 101, .int .u8 97, .int .u8 100, .int .u8 105, .int .u8 110, .int .u8 103] 5) from by rw [hy5, hg0]; exact at_new_block _ _)
       have K0s := Lib.hid (show g0 < y5.heap.size ∧ w1.heap.size ≤ g0 from ⟨by rw [hy5, hg0]; simp, by rw [hg0]; exact B4.out.size⟩)
       rw [← hg0, ← hy5]
       clear hy5 hg0
       refine hK.out _ _ ?_ (fun hHeld => ?_)
       ·exact HC.out _ B5.out
       clear hK K
       (try simp only [Act.put, List.setIfInBounds_toArray, List.set_cons_zero, List.set_cons_succ])
       refine wpAnyH_ready (rs := [1]) (by kernel_rfl) (by simp) ?_
       refine AllReadyH.cons (o := qo1) rfl (fun K hK => ?_) ?_
       ·unfold qo1
        obtain ⟨y6, hcv, s6, t6⟩ := conv_mark y5 g0 8 8 _ K0.out
        have S6 := Lib.hid s6
        have B6 := Lib.hid (t6 _ _ B5.out K0s.out.2)
        clear s6 t6
        go_simp
        clear hcv
        refine hK.out _ _ ?_ (fun hHeld => ?_)
        ·exact HC.out _ B6.out
        clear hK K
        (try simp only [Act.put, List.setIfInBounds_toArray, List.set_cons_zero, List.set_cons_succ])
        refine wpAnyH_ready (rs := [16]) (by kernel_rfl) (by simp) ?_
        refine AllReadyH.cons (o := qo16) rfl (fun K hK => ?_) ?_
        ·unfold qo16; go_simp
         obtain ⟨y7, hy7⟩ : ∃ z, z = y6.alloc (.cells #[.slice (some ⟨g0, 0, none⟩) 8 8, .slice (some ⟨g9, 0, none⟩) 8 8, .slice (some ⟨g15, 0, none⟩) 16 16] 22) := ⟨_, rfl⟩
         obtain ⟨g16, hg16⟩ : ∃ z, z = y6.heap.size := ⟨_, rfl⟩
         have D7 := Lib.hid (show Below y6.heap.size y6 y7 from by rw [hy7]; exact below_new _ _)
         have B7 := Lib.hid (below_call B6.out D7.out)
         have S7 := Lib.hid (Same.of D7.out)
         have P16 := Lib.hid (show y7.cell? ⟨g16, 0, none⟩ = _ ∧ y7.cell? ⟨g16, 1, none⟩ = _ ∧ y7.cell? ⟨g16, 2, none⟩ = _ from by rw [hy7, hg16]; exact three_cells _ _ _ _)
         rw [← hg16, ← hy7]
         clear hy7 hg16
         refine hK.out _ _ ?_ (fun hHeld => ?_)
         ·exact HC.out _ B7.out
         clear hK K
         (try simp only [Act.put, List.setIfInBounds_toArray, List.set_cons_zero, List.set_cons_succ])
         refine wpAnyH_ready (rs := [17]) (by kernel_rfl) (by simp) ?_
         refine AllReadyH.cons (o := qo17) rfl (fun K hK => ?_) ?_
         ·unfold qo17; go_simp
          refine (join8 p k o n _ g16 y7.heap.size g0 g9 g15 rfl P16.out (L0.out.keep (S6.out.trans S7.out).cell) (L9.out.keep (((S4.out.trans S5.out).trans S6.out).trans S7.out).cell) (L15.out.keep ((S5.out.trans S6.out).trans S7.out).cell)).mono ?_
          rintro e y8 ⟨rfl, o8, b8, z8⟩
          have B8 := Lib.hid (below_call B7.out b8)
          have Z := Lib.hid (show _ ∧ _ ∧ w1.heap.size ≤ y7.heap.size from And.intro o8 (And.intro z8 B7.out.size))
          clear o8 z8 b8
          generalize y7.heap.size = gf at *
          go_wp2_with fail
          refine hK.out _ _ ?_ (fun hHeld => ?_)
          ·exact HC.out _ B8.out
          clear hK K
          (try simp only [Act.put, List.setIfInBounds_toArray, List.set_cons_zero, List.set_cons_succ])
          refine wpAnyH_take (i := 18) (oi := qo18) (v := ?_) rfl (by kernel_rfl) (by kernel_rfl) (by kernel_rfl) (fun _ _ _ h => h) (Or.inl ⟨by rfl, ?_⟩) (by assumption) ?_
          rotate_left
          ·(intro w hSw; (try dsimp only at hSw); unfold qo18; go_simp) <;> with_reducible rfl
          unfold qo18; (try simp only [Act.put, List.setIfInBounds_toArray, List.set_cons_zero, List.set_cons_succ])
          refine wpAnyH_done (by kernel_rfl) ?_ _
          refine NoPanic.normal ?_
          go_wp2_with fail
          go_ret
          exact ⟨gf, rfl, fin8 BB.out.1 B8.out Z.out⟩
         exact AllReadyH.nil
        exact AllReadyH.nil
       exact AllReadyH.nil
      exact AllReadyH.nil
     exact AllReadyH.nil
    exact AllReadyH.nil
   exact AllReadyH.nil
  refine AllReadyH.cons (o := qo14) rfl (fun K hK => ?_) ?_
  ·unfold qo14; go_simp
   obtain ⟨y1, hy1⟩ : ∃ z, z = y0.alloc (.cells #[.int .u64 (o : Int), .int .u64 (n : Int)] 28) := ⟨_, rfl⟩
   obtain ⟨g14, hg14⟩ : ∃ z, z = y0.heap.size := ⟨_, rfl⟩
   have D1 := Lib.hid (show Below y0.heap.size y0 y1 from by rw [hy1]; exact below_new _ _)
   have B1 := Lib.hid (below_call B0.out D1.out)
   have S1 := Lib.hid (Same.of D1.out)
   have P14 := Lib.hid (show y1.cell? ⟨g14, 0, none⟩ = _ ∧ y1.cell? ⟨g14, 1, none⟩ = _ from by rw [hy1, hg14]; exact pair_cells _ _ _)
   rw [← hg14, ← hy1]
   clear hy1 hg14
   refine hK.out _ _ ?_ (fun hHeld => ?_)
   ·exact HC.out _ B1.out
   clear hK K
   (try simp only [Act.put, List.setIfInBounds_toArray, List.set_cons_zero, List.set_cons_succ])
   refine wpAnyH_ready (rs := [0, 8]) (by kernel_rfl) (by simp) ?_
   refine AllReadyH.cons (o := qo0) rfl (fun K hK => ?_) ?_
   ·unfold qo0; go_simp
    obtain ⟨y2, hy2⟩ : ∃ z, z = y1.alloc (.cells #[.int .u8 115, .int .u8 116, .int .u8 101, .int .u8 97, .int .u8 100, .int .u8 105, .int .u8 110, .int .u8 103] 5) := ⟨_, rfl⟩
    obtain ⟨g0, hg0⟩ : ∃ z, z = y1.heap.size := ⟨_, rfl⟩
    have D2 := Lib.hid (show Below y1.heap.size y1 y2 from by rw [hy2]; exact below_new _ _)
    have B2 := Lib.hid (below_call B1.out D2.out)
    have S2 := Lib.hid (Same.of D2.out)
    have L0 := Lib.hid (show Lies y2 (some ⟨g0, 0, none⟩) (u8s M.mark) from by rw [hy2, hg0]; exact mark_lies _)
    have K0 := Lib.hid (show y2.heap[g0]? = some (.cells #[.int .u8 115, .int .u8 116, .int .u8 101, .int .u8 97, .int .u8 100, .int .u8 105, .int .u8 110, .int .u8 103] 5) from by rw [hy2, hg0]; exact at_new_block _ _)
    have K0s := Lib.hid (show g0 < y2.heap.size ∧ w1.heap.size ≤ g0 from ⟨by rw [hy2, hg0]; simp, by rw [hg0]; exact B1.out.size⟩)
    rw [← hg0, ← hy2]
    clear hy2 hg0
    refine hK.out _ _ ?_ (fun hHeld => ?_)
    ·exact HC.out _ B2.out
    clear hK K
    (try simp only [Act.put, List.setIfInBounds_toArray, List.set_cons_zero, List.set_cons_succ])
    refine wpAnyH_ready (rs := [1, 8]) (by kernel_rfl) (by simp) ?_
    refine AllReadyH.cons (o := qo1) rfl (fun K hK => ?_) ?_
    ·unfold qo1
     obtain ⟨y3, hcv, s3, t3⟩ := conv_mark y2 g0 8 8 _ K0.out
     have S3 := Lib.hid s3
     have B3 := Lib.hid (t3 _ _ B2.out K0s.out.2)
     clear s3 t3
     go_simp
     clear hcv
     refine hK.out _ _ ?_ (fun hHeld => ?_)
     ·exact HC.out _ B3.out
     clear hK K
     (try simp only [Act.put, List.setIfInBounds_toArray, List.set_cons_zero, List.set_cons_succ])
     refine wpAnyH_ready (rs := [8]) (by kernel_rfl) (by simp) ?_
     refine AllReadyH.cons (o := qo8) rfl (fun K hK => ?_) ?_
     ·unfold qo8; go_simp
      obtain ⟨y4, hy4⟩ : ∃ z, z = y3.alloc (.cells #[.int .u64 x, .int .u64 y] 28) := ⟨_, rfl⟩
      obtain ⟨g8, hg8⟩ : ∃ z, z = y3.heap.size := ⟨_, rfl⟩
      have D4 := Lib.hid (show Below y3.heap.size y3 y4 from by rw [hy4]; exact below_new _ _)
      have B4 := Lib.hid (below_call B3.out D4.out)
      have S4 := Lib.hid (Same.of D4.out)
      have P8 := Lib.hid (show y4.cell? ⟨g8, 0, none⟩ = _ ∧ y4.cell? ⟨g8, 1, none⟩ = _ from by rw [hy4, hg8]; exact pair_cells _ _ _)
      rw [← hg8, ← hy4]
      clear hy4 hg8
      refine hK.out _ _ ?_ (fun hHeld => ?_)
      ·exact HC.out _ B4.out
      clear hK K
      (try simp only [Act.put, List.setIfInBounds_toArray, List.set_cons_zero, List.set_cons_succ])
      refine wpAnyH_ready (rs := [9]) (by kernel_rfl) (by simp) ?_
      refine AllReadyH.cons (o := qo9) rfl (fun K hK => ?_) ?_
      ·unfold qo9; go_simp
       refine (bytes_two 4 8 (by omega) rfl x y p k g8 HX.out.1 HX.out.2.1 (by have := HX.out; omega) (by have := HX.out; omega) _ ((Same.refl _).some P8.out.1) ((Same.refl _).some P8.out.2)).mono ?_
       rintro e y5 ⟨g9, rfl, l9, b5⟩
       have L9 := Lib.hid l9
       have D5 := Lib.hid b5
       have B5 := Lib.hid (below_call B4.out b5)
       have S5 := Lib.hid (Same.of b5)
       clear l9 b5
       go_wp2_with fail
       refine hK.out _ _ ?_ (fun hHeld => ?_)
       ·exact HC.out _ B5.out
       clear hK K
       (try simp only [Act.put, List.setIfInBounds_toArray, List.set_cons_zero, List.set_cons_succ])
       refine wpAnyH_ready (rs := [15]) (by kernel_rfl) (by simp) ?_
       refine AllReadyH.cons (o := qo15) rfl (fun K hK => ?_) ?_
       ·unfold qo15; go_simp
        refine (bytes_two 8 16 (by omega) rfl (o : Int) (n : Int) o n g14 rfl rfl HX.out.2.2.2.2.1 HX.out.2.2.2.2.2 _ ((((S2.out.trans S3.out).trans S4.out).trans S5.out).some P14.out.1) ((((S2.out.trans S3.out).trans S4.out).trans S5.out).some P14.out.2)).mono ?_
        rintro e y6 ⟨g15, rfl, l15, b6⟩
        have L15 := Lib.hid l15
        have D6 := Lib.hid b6
        have B6 := Lib.hid (below_call B5.out b6)
        have S6 := Lib.hid (Same.of b6)
        clear l15 b6
        go_wp2_with fail
        refine hK.out _ _ ?_ (fun hHeld => ?_)
        ·exact HC.out _ B6.out
        clear hK K
        (try simp only [Act.put, List.setIfInBounds_toArray, List.set_cons_zero, List.set_cons_succ])
        refine wpAnyH_ready (rs := [16]) (by kernel_rfl) (by simp) ?_
        refine AllReadyH.cons (o := qo16) rfl (fun K hK => ?_) ?_
        ·unfold qo16; go_simp
         obtain ⟨y7, hy7⟩ : ∃ z, z = y6.alloc (.cells #[.slice (some ⟨g0, 0, none⟩) 8 8, .slice (some ⟨g9, 0, none⟩) 8 8, .slice (some ⟨g15, 0, none⟩) 16 16] 22) := ⟨_, rfl⟩
         obtain ⟨g16, hg16⟩ : ∃ z, z = y6.heap.size := ⟨_, rfl⟩
         have D7 := Lib.hid (show Below y6.heap.size y6 y7 from by rw [hy7]; exact below_new _ _)
         have B7 := Lib.hid (below_call B6.out D7.out)
         have S7 := Lib.hid (Same.of D7.out)
         have P16 := Lib.hid (show y7.cell? ⟨g16, 0, none⟩ = _ ∧ y7.cell? ⟨g16, 1, none⟩ = _ ∧ y7.cell? ⟨g16, 2, none⟩ = _ from by rw [hy7, hg16]; exact three_cells _ _ _ _)
         rw [← hg16, ← hy7]
         clear hy7 hg16
         refine hK.out _ _ ?_ (fun hHeld => ?_)
         ·exact HC.out _ B7.out
         clear hK K
         (try simp only [Act.put, List.setIfInBounds_toArray, List.set_cons_zero, List.set_cons_succ])
         refine wpAnyH_ready (rs := [17]) (by kernel_rfl) (by simp) ?_
         refine AllReadyH.cons (o := qo17) rfl (fun K hK => ?_) ?_
         ·unfold qo17; go_simp
          refine (join8 p k o n _ g16 y7.heap.size g0 g9 g15 rfl P16.out (L0.out.keep ((((S3.out.trans S4.out).trans S5.out).trans S6.out).trans S7.out).cell) (L9.out.keep (S6.out.trans S7.out).cell) (L15.out.keep S7.out.cell)).mono ?_
          rintro e y8 ⟨rfl, o8, b8, z8⟩
          have B8 := Lib.hid (below_call B7.out b8)
          have Z := Lib.hid (show _ ∧ _ ∧ w1.heap.size ≤ y7.heap.size from And.intro o8 (And.intro z8 B7.out.size))
          clear o8 z8 b8
          generalize y7.heap.size = gf at *
          go_wp2_with fail
          refine hK.out _ _ ?_ (fun hHeld => ?_)
          ·exact HC.out _ B8.out
          clear hK K
          (try simp only [Act.put, List.setIfInBounds_toArray, List.set_cons_zero, List.set_cons_succ])
          refine wpAnyH_take (i := 18) (oi := qo18) (v := ?_) rfl (by kernel_rfl) (by kernel_rfl) (by kernel_rfl) (fun _ _ _ h => h) (Or.inl ⟨by rfl, ?_⟩) (by assumption) ?_
          rotate_left
          ·(intro w hSw; (try dsimp only at hSw); unfold qo18; go_simp) <;> with_reducible rfl
          unfold qo18; (try simp only [Act.put, List.setIfInBounds_toArray, List.set_cons_zero, List.set_cons_succ])
          refine wpAnyH_done (by kernel_rfl) ?_ _
          refine NoPanic.normal ?_
          go_wp2_with fail
          go_ret
          exact ⟨gf, rfl, fin8 BB.out.1 B8.out Z.out⟩
         exact AllReadyH.nil
        exact AllReadyH.nil
       exact AllReadyH.nil
      exact AllReadyH.nil
     exact AllReadyH.nil
    refine AllReadyH.cons (o := qo8) rfl (fun K hK => ?_) ?_
    ·unfold qo8; go_simp
     obtain ⟨y3, hy3⟩ : ∃ z, z = y2.alloc (.cells #[.int .u64 x, .int .u64 y] 28) := ⟨_, rfl⟩
     obtain ⟨g8, hg8⟩ : ∃ z, z = y2.heap.size := ⟨_, rfl⟩
     have D3 := Lib.hid (show Below y2.heap.size y2 y3 from by rw [hy3]; exact below_new _ _)
     have B3 := Lib.hid (below_call B2.out D3.out)
     have S3 := Lib.hid (Same.of D3.out)
     have P8 := Lib.hid (show y3.cell? ⟨g8, 0, none⟩ = _ ∧ y3.cell? ⟨g8, 1, none⟩ = _ from by rw [hy3, hg8]; exact pair_cells _ _ _)
     rw [← hg8, ← hy3]
     clear hy3 hg8
     refine hK.out _ _ ?_ (fun hHeld => ?_)
     ·exact HC.out _ B3.out
     clear hK K
     (try simp only [Act.put, List.setIfInBounds_toArray, List.set_cons_zero, List.set_cons_succ])
     refine wpAnyH_ready (rs := [1, 9]) (by kernel_rfl) (by simp) ?_
     refine AllReadyH.cons (o := qo1) rfl (fun K hK => ?_) ?_
     ·unfold qo1
      obtain ⟨y4, hcv, s4, t4⟩ := conv_mark y3 g0 8 8 _ ((D3.out.block g0 (by have := K0s.out; omega)).trans K0.out)
      have S4 := Lib.hid s4
      have B4 := Lib.hid (t4 _ _ B3.out K0s.out.2)
      clear s4 t4
      go_simp
      clear hcv
      refine hK.out _ _ ?_ (fun hHeld => ?_)
      ·exact HC.out _ B4.out
      clear hK K
      (try simp only [Act.put, List.setIfInBounds_toArray, List.set_cons_zero, List.set_cons_succ])
      refine wpAnyH_ready (rs := [9]) (by kernel_rfl) (by simp) ?_
      refine AllReadyH.cons (o := qo9) rfl (fun K hK => ?_) ?_
      ·unfold qo9; go_simp
       refine (bytes_two 4 8 (by omega) rfl x y p k g8 HX.out.1 HX.out.2.1 (by have := HX.out; omega) (by have := HX.out; omega) _ (S4.out.some P8.out.1) (S4.out.some P8.out.2)).mono ?_
       rintro e y5 ⟨g9, rfl, l9, b5⟩
       have L9 := Lib.hid l9
       have D5 := Lib.hid b5
       have B5 := Lib.hid (below_call B4.out b5)
       have S5 := Lib.hid (Same.of b5)
       clear l9 b5
       go_wp2_with fail
       refine hK.out _ _ ?_ (fun hHeld => ?_)
       ·exact HC.out _ B5.out
       clear hK K
       (try simp only [Act.put, List.setIfInBounds_toArray, List.set_cons_zero, List.set_cons_succ])
       refine wpAnyH_ready (rs := [15]) (by kernel_rfl) (by simp) ?_
       refine AllReadyH.cons (o := qo15) rfl (fun K hK => ?_) ?_
       ·unfold qo15; go_simp
        refine (bytes_two 8 16 (by omega) rfl (o : Int) (n : Int) o n g14 rfl rfl HX.out.2.2.2.2.1 HX.out.2.2.2.2.2 _ ((((S2.out.trans S3.out).trans S4.out).trans S5.out).some P14.out.1) ((((S2.out.trans S3.out).trans S4.out).trans S5.out).some P14.out.2)).mono ?_
        rintro e y6 ⟨g15, rfl, l15, b6⟩
        have L15 := Lib.hid l15
        have D6 := Lib.hid b6
        have B6 := Lib.hid (below_call B5.out b6)
        have S6 := Lib.hid (Same.of b6)
        clear l15 b6
        go_wp2_with fail
        refine hK.out _ _ ?_ (fun hHeld => ?_)
        ·exact HC.out _ B6.out
        clear hK K
        (try simp only [Act.put, List.setIfInBounds_toArray, List.set_cons_zero, List.set_cons_succ])
        refine wpAnyH_ready (rs := [16]) (by kernel_rfl) (by simp) ?_
        refine AllReadyH.cons (o := qo16) rfl (fun K hK => ?_) ?_
        ·unfold qo16; go_simp
         obtain ⟨y7, hy7⟩ : ∃ z, z = y6.alloc (.cells #[.slice (some ⟨g0, 0, none⟩) 8 8, .slice (some ⟨g9, 0, none⟩) 8 8, .slice (some ⟨g15, 0, none⟩) 16 16] 22) := ⟨_, rfl⟩
         obtain ⟨g16, hg16⟩ : ∃ z, z = y6.heap.size := ⟨_, rfl⟩
         have D7 := Lib.hid (show Below y6.heap.size y6 y7 from by rw [hy7]; exact below_new _ _)
         have B7 := Lib.hid (below_call B6.out D7.out)
         have S7 := Lib.hid (Same.of D7.out)
         have P16 := Lib.hid (show y7.cell? ⟨g16, 0, none⟩ = _ ∧ y7.cell? ⟨g16, 1, none⟩ = _ ∧ y7.cell? ⟨g16, 2, none⟩ = _ from by rw [hy7, hg16]; exact three_cells _ _ _ _)
         rw [← hg16, ← hy7]
         clear hy7 hg16
         refine hK.out _ _ ?_ (fun hHeld => ?_)
         ·exact HC.out _ B7.out
         clear hK K
         (try simp only [Act.put, List.setIfInBounds_toArray, List.set_cons_zero, List.set_cons_succ])
         refine wpAnyH_ready (rs := [17]) (by kernel_rfl) (by simp) ?_
         refine AllReadyH.cons (o := qo17) rfl (fun K hK => ?_) ?_
         ·unfold qo17; go_simp
          refine (join8 p k o n _ g16 y7.heap.size g0 g9 g15 rfl P16.out (L0.out.keep ((((S3.out.trans S4.out).trans S5.out).trans S6.out).trans S7.out).cell) (L9.out.keep (S6.out.trans S7.out).cell) (L15.out.keep S7.out.cell)).mono ?_
          rintro e y8 ⟨rfl, o8, b8, z8⟩
          have B8 := Lib.hid (below_call B7.out b8)
          have Z := Lib.hid (show _ ∧ _ ∧ w1.heap.size ≤ y7.heap.size from And.intro o8 (And.intro z8 B7.out.size))
          clear o8 z8 b8
          generalize y7.heap.size = gf at *
          go_wp2_with fail
          refine hK.out _ _ ?_ (fun hHeld => ?_)
          ·exact HC.out _ B8.out
          clear hK K
          (try simp only [Act.put, List.setIfInBounds_toArray, List.set_cons_zero, List.set_cons_succ])
          refine wpAnyH_take (i := 18) (oi := qo18) (v := ?_) rfl (by kernel_rfl) (by kernel_rfl) (by kernel_rfl) (fun _ _ _ h => h) (Or.inl ⟨by rfl, ?_⟩) (by assumption) ?_
          rotate_left
          ·(intro w hSw; (try dsimp only at hSw); unfold qo18; go_simp) <;> with_reducible rfl
          unfold qo18; (try simp only [Act.put, List.setIfInBounds_toArray, List.set_cons_zero, List.set_cons_succ])
          refine wpAnyH_done (by kernel_rfl) ?_ _
          refine NoPanic.normal ?_
          go_wp2_with fail
          go_ret
          exact ⟨gf, rfl, fin8 BB.out.1 B8.out Z.out⟩
         exact AllReadyH.nil
        exact AllReadyH.nil
       exact AllReadyH.nil
      exact AllReadyH.nil
     refine AllReadyH.cons (o := qo9) rfl (fun K hK => ?_) ?_
     ·unfold qo9; go_simp
      refine (bytes_two 4 8 (by omega) rfl x y p k g8 HX.out.1 HX.out.2.1 (by have := HX.out; omega) (by have := HX.out; omega) _ ((Same.refl _).some P8.out.1) ((Same.refl _).some P8.out.2)).mono ?_
      rintro e y4 ⟨g9, rfl, l9, b4⟩
      have L9 := Lib.hid l9
      have D4 := Lib.hid b4
      have B4 := Lib.hid (below_call B3.out b4)
      have S4 := Lib.hid (Same.of b4)
      clear l9 b4
      go_wp2_with fail
      refine hK.out _ _ ?_ (fun hHeld => ?_)
      ·exact HC.out _ B4.out
      clear hK K
      (try simp only [Act.put, List.setIfInBounds_toArray, List.set_cons_zero, List.set_cons_succ])
      refine wpAnyH_ready (rs := [1, 15]) (by kernel_rfl) (by simp) ?_
      refine AllReadyH.cons (o := qo1) rfl (fun K hK => ?_) ?_
      ·unfold qo1
       obtain ⟨y5, hcv, s5, t5⟩ := conv_mark y4 g0 8 8 _ ((D4.out.block g0 (by have := K0s.out; have := D3.out.size; omega)).trans ((D3.out.block g0 (by have := K0s.out; omega)).trans K0.out))
       have S5 := Lib.hid s5
       have B5 := Lib.hid (t5 _ _ B4.out K0s.out.2)
       clear s5 t5
       go_simp
       clear hcv
       refine hK.out _ _ ?_ (fun hHeld => ?_)
       ·exact HC.out _ B5.out
       clear hK K
       (try simp only [Act.put, List.setIfInBounds_toArray, List.set_cons_zero, List.set_cons_succ])
       refine wpAnyH_ready (rs := [15]) (by kernel_rfl) (by simp) ?_
       refine AllReadyH.cons (o := qo15) rfl (fun K hK => ?_) ?_
       ·unfold qo15; go_simp
        refine (bytes_two 8 16 (by omega) rfl (o : Int) (n : Int) o n g14 rfl rfl HX.out.2.2.2.2.1 HX.out.2.2.2.2.2 _ ((((S2.out.trans S3.out).trans S4.out).trans S5.out).some P14.out.1) ((((S2.out.trans S3.out).trans S4.out).trans S5.out).some P14.out.2)).mono ?_
        rintro e y6 ⟨g15, rfl, l15, b6⟩
        have L15 := Lib.hid l15
        have D6 := Lib.hid b6
        have B6 := Lib.hid (below_call B5.out b6)
        have S6 := Lib.hid (Same.of b6)
        clear l15 b6
        go_wp2_with fail
        refine hK.out _ _ ?_ (fun hHeld => ?_)
        ·exact HC.out _ B6.out
        clear hK K
        (try simp only [Act.put, List.setIfInBounds_toArray, List.set_cons_zero, List.set_cons_succ])
        refine wpAnyH_ready (rs := [16]) (by kernel_rfl) (by simp) ?_
        refine AllReadyH.cons (o := qo16) rfl (fun K hK => ?_) ?_
        ·unfold qo16; go_simp
         obtain ⟨y7, hy7⟩ : ∃ z, z = y6.alloc (.cells #[.slice (some ⟨g0, 0, none⟩) 8 8, .slice (some ⟨g9, 0, none⟩) 8 8, .slice (some ⟨g15, 0, none⟩) 16 16] 22) := ⟨_, rfl⟩
         obtain ⟨g16, hg16⟩ : ∃ z, z = y6.heap.size := ⟨_, rfl⟩
         have D7 := Lib.hid (show Below y6.heap.size y6 y7 from by rw [hy7]; exact below_new _ _)
         have B7 := Lib.hid (below_call B6.out D7.out)
         have S7 := Lib.hid (Same.of D7.out)
         have P16 := Lib.hid (show y7.cell? ⟨g16, 0, none⟩ = _ ∧ y7.cell? ⟨g16, 1, none⟩ = _ ∧ y7.cell? ⟨g16, 2, none⟩ = _ from by rw [hy7, hg16]; exact three_cells _ _ _ _)
         rw [← hg16, ← hy7]
         clear hy7 hg16
         refine hK.out _ _ ?_ (fun hHeld => ?_)
         ·exact HC.out _ B7.out
         clear hK K
         (try simp only [Act.put, List.setIfInBounds_toArray, List.set_cons_zero, List.set_cons_succ])
         refine wpAnyH_ready (rs := [17]) (by kernel_rfl) (by simp) ?_
         refine AllReadyH.cons (o := qo17) rfl (fun K hK => ?_) ?_
         ·unfold qo17; go_simp
          refine (join8 p k o n _ g16 y7.heap.size g0 g9 g15 rfl P16.out (L0.out.keep ((((S3.out.trans S4.out).trans S5.out).trans S6.out).trans S7.out).cell) (L9.out.keep ((S5.out.trans S6.out).trans S7.out).cell) (L15.out.keep S7.out.cell)).mono ?_
          rintro e y8 ⟨rfl, o8, b8, z8⟩
          have B8 := Lib.hid (below_call B7.out b8)
          have Z := Lib.hid (show _ ∧ _ ∧ w1.heap.size ≤ y7.heap.size from And.intro o8 (And.intro z8 B7.out.size))
          clear o8 z8 b8
          generalize y7.heap.size = gf at *
          go_wp2_with fail
          refine hK.out _ _ ?_ (fun hHeld => ?_)
          ·exact HC.out _ B8.out
          clear hK K
          (try simp only [Act.put, List.setIfInBounds_toArray, List.set_cons_zero, List.set_cons_succ])
          refine wpAnyH_take (i := 18) (oi := qo18) (v := ?_) rfl (by kernel_rfl) (by kernel_rfl) (by kernel_rfl) (fun _ _ _ h => h) (Or.inl ⟨by rfl, ?_⟩) (by assumption) ?_
          rotate_left
          ·(intro w hSw; (try dsimp only at hSw); unfold qo18; go_simp) <;> with_reducible rfl
          unfold qo18; (try simp only [Act.put, List.setIfInBounds_toArray, List.set_cons_zero, List.set_cons_succ])
          refine wpAnyH_done (by kernel_rfl) ?_ _
          refine NoPanic.normal ?_
          go_wp2_with fail
          go_ret
          exact ⟨gf, rfl, fin8 BB.out.1 B8.out Z.out⟩
         exact AllReadyH.nil
        exact AllReadyH.nil
       exact AllReadyH.nil
      refine AllReadyH.cons (o := qo15) rfl (fun K hK => ?_) ?_
      ·unfold qo15; go_simp
       refine (bytes_two 8 16 (by omega) rfl (o : Int) (n : Int) o n g14 rfl rfl HX.out.2.2.2.2.1 HX.out.2.2.2.2.2 _ (((S2.out.trans S3.out).trans S4.out).some P14.out.1) (((S2.out.trans S3.out).trans S4.out).some P14.out.2)).mono ?_
       rintro e y5 ⟨g15, rfl, l15, b5⟩
       have L15 := Lib.hid l15
       have D5 := Lib.hid b5
       have B5 := Lib.hid (below_call B4.out b5)
       have S5 := Lib.hid (Same.of b5)
       clear l15 b5
       go_wp2_with fail
       refine hK.out _ _ ?_ (fun hHeld => ?_)
       ·exact HC.out _ B5.out
       clear hK K
       (try simp only [Act.put, List.setIfInBounds_toArray, List.set_cons_zero, List.set_cons_succ])
       refine wpAnyH_ready (rs := [1]) (by kernel_rfl) (by simp) ?_
       refine AllReadyH.cons (o := qo1) rfl (fun K hK => ?_) ?_
       ·unfold qo1
        obtain ⟨y6, hcv, s6, t6⟩ := conv_mark y5 g0 8 8 _ ((D5.out.block g0 (by have := K0s.out; have := D3.out.size; have := D4.out.size; omega)).trans ((D4.out.block g0 (by have := K0s.out; have := D3.out.size; omega)).trans ((D3.out.block g0 (by have := K0s.out; omega)).trans K0.out)))
        have S6 := Lib.hid s6
        have B6 := Lib.hid (t6 _ _ B5.out K0s.out.2)
        clear s6 t6
        go_simp
        clear hcv
        refine hK.out _ _ ?_ (fun hHeld => ?_)
        ·exact HC.out _ B6.out
        clear hK K
        (try simp only [Act.put, List.setIfInBounds_toArray, List.set_cons_zero, List.set_cons_succ])
        refine wpAnyH_ready (rs := [16]) (by kernel_rfl) (by simp) ?_
        refine AllReadyH.cons (o := qo16) rfl (fun K hK => ?_) ?_
        ·unfold qo16; go_simp
         obtain ⟨y7, hy7⟩ : ∃ z, z = y6.alloc (.cells #[.slice (some ⟨g0, 0, none⟩) 8 8, .slice (some ⟨g9, 0, none⟩) 8 8, .slice (some ⟨g15, 0, none⟩) 16 16] 22) := ⟨_, rfl⟩
         obtain ⟨g16, hg16⟩ : ∃ z, z = y6.heap.size := ⟨_, rfl⟩
         have D7 := Lib.hid (show Below y6.heap.size y6 y7 from by rw [hy7]; exact below_new _ _)
         have B7 := Lib.hid (below_call B6.out D7.out)
         have S7 := Lib.hid (Same.of D7.out)
         have P16 := Lib.hid (show y7.cell? ⟨g16, 0, none⟩ = _ ∧ y7.cell? ⟨g16, 1, none⟩ = _ ∧ y7.cell? ⟨g16, 2, none⟩ = _ from by rw [hy7, hg16]; exact three_cells _ _ _ _)
         rw [← hg16, ← hy7]
         clear hy7 hg16
         refine hK.out _ _ ?_ (fun hHeld => ?_)
         ·exact HC.out _ B7.out
         clear hK K
         (try simp only [Act.put, List.setIfInBounds_toArray, List.set_cons_zero, List.set_cons_succ])
         refine wpAnyH_ready (rs := [17]) (by kernel_rfl) (by simp) ?_
         refine AllReadyH.cons (o := qo17) rfl (fun K hK => ?_) ?_
         ·unfold qo17; go_simp
          refine (join8 p k o n _ g16 y7.heap.size g0 g9 g15 rfl P16.out (L0.out.keep ((((S3.out.trans S4.out).trans S5.out).trans S6.out).trans S7.out).cell) (L9.out.keep ((S5.out.trans S6.out).trans S7.out).cell) (L15.out.keep (S6.out.trans S7.out).cell)).mono ?_
          rintro e y8 ⟨rfl, o8, b8, z8⟩
          have B8 := Lib.hid (below_call B7.out b8)
          have Z := Lib.hid (show _ ∧ _ ∧ w1.heap.size ≤ y7.heap.size from And.intro o8 (And.intro z8 B7.out.size))
          clear o8 z8 b8
          generalize y7.heap.size = gf at *
          go_wp2_with fail
          refine hK.out _ _ ?_ (fun hHeld => ?_)
          ·exact HC.out _ B8.out
          clear hK K
          (try simp only [Act.put, List.setIfInBounds_toArray, List.set_cons_zero, List.set_cons_succ])
          refine wpAnyH_take (i := 18) (oi := qo18) (v := ?_) rfl (by kernel_rfl) (by kernel_rfl) (by kernel_rfl) (fun _ _ _ h => h) (Or.inl ⟨by rfl, ?_⟩) (by assumption) ?_
          rotate_left
          ·(intro w hSw; (try dsimp only at hSw); unfold qo18; go_simp) <;> with_reducible rfl
          unfold qo18; (try simp only [Act.put, List.setIfInBounds_toArray, List.set_cons_zero, List.set_cons_succ])
          refine wpAnyH_done (by kernel_rfl) ?_ _
          refine NoPanic.normal ?_
          go_wp2_with fail
          go_ret
          exact ⟨gf, rfl, fin8 BB.out.1 B8.out Z.out⟩
         exact AllReadyH.nil
        exact AllReadyH.nil
       exact AllReadyH.nil
      exact AllReadyH.nil
     exact AllReadyH.nil
    exact AllReadyH.nil
   refine AllReadyH.cons (o := qo8) rfl (fun K hK => ?_) ?_
   ·unfold qo8; go_simp
    obtain ⟨y2, hy2⟩ : ∃ z, z = y1.alloc (.cells #[.int .u64 x, .int .u64 y] 28) := ⟨_, rfl⟩
    obtain ⟨g8, hg8⟩ : ∃ z, z = y1.heap.size := ⟨_, rfl⟩
    have D2 := Lib.hid (show Below y1.heap.size y1 y2 from by rw [hy2]; exact below_new _ _)
    have B2 := Lib.hid (below_call B1.out D2.out)
    have S2 := Lib.hid (Same.of D2.out)
    have P8 := Lib.hid (show y2.cell? ⟨g8, 0, none⟩ = _ ∧ y2.cell? ⟨g8, 1, none⟩ = _ from by rw [hy2, hg8]; exact pair_cells _ _ _)
    rw [← hg8, ← hy2]
    clear hy2 hg8
    refine hK.out _ _ ?_ (fun hHeld => ?_)
    ·exact HC.out _ B2.out
    clear hK K
    (try simp only [Act.put, List.setIfInBounds_toArray, List.set_cons_zero, List.set_cons_succ])
    refine wpAnyH_ready (rs := [0, 9]) (by kernel_rfl) (by simp) ?_
    refine AllReadyH.cons (o := qo0) rfl (fun K hK => ?_) ?_
    ·unfold qo0; go_simp
     obtain ⟨y3, hy3⟩ : ∃ z, z = y2.alloc (.cells #[.int .u8 115, .int .u8 116, .int .u8 101, .int .u8 97, .int .u8 100, .int .u8 105, .int .u8 110, .int .u8 103] 5) := ⟨_, rfl⟩
     obtain ⟨g0, hg0⟩ : ∃ z, z = y2.heap.size := ⟨_, rfl⟩
     have D3 := Lib.hid (show Below y2.heap.size y2 y3 from by rw [hy3]; exact below_new _ _)
     have B3 := Lib.hid (below_call B2.out D3.out)
     have S3 := Lib.hid (Same.of D3.out)
     have L0 := Lib.hid (show Lies y3 (some ⟨g0, 0, none⟩) (u8s M.mark) from by rw [hy3, hg0]; exact mark_lies _)
     have K0 := Lib.hid (show y3.heap[g0]? = some (.cells #[.int .u8 115, .int .u8 116, .int .u8 101, .int .u8 97, .int .u8 100, .int .u8 105, .int .u8 110, .int .u8 103] 5) from by rw [hy3, hg0]; exact at_new_block _ _)
     have K0s := Lib.hid (show g0 < y3.heap.size ∧ w1.heap.size ≤ g0 from ⟨by rw [hy3, hg0]; simp, by rw [hg0]; exact B2.out.size⟩)
     rw [← hg0, ← hy3]
     clear hy3 hg0
     refine hK.out _ _ ?_ (fun hHeld => ?_)
     ·exact HC.out _ B3.out
     clear hK K
     (try simp only [Act.put, List.setIfInBounds_toArray, List.set_cons_zero, List.set_cons_succ])
     refine wpAnyH_ready (rs := [1, 9]) (by kernel_rfl) (by simp) ?_
     refine AllReadyH.cons (o := qo1) rfl (fun K hK => ?_) ?_
     ·unfold qo1
      obtain ⟨y4, hcv, s4, t4⟩ := conv_mark y3 g0 8 8 _ K0.out
      have S4 := Lib.hid s4
      have B4 := Lib.hid (t4 _ _ B3.out K0s.out.2)
      clear s4 t4
      go_simp
      clear hcv
      refine hK.out _ _ ?_ (fun hHeld => ?_)
      ·exact HC.out _ B4.out
      clear hK K
      (try simp only [Act.put, List.setIfInBounds_toArray, List.set_cons_zero, List.set_cons_succ])
      refine wpAnyH_ready (rs := [9]) (by kernel_rfl) (by simp) ?_
      refine AllReadyH.cons (o := qo9) rfl (fun K hK => ?_) ?_
      ·unfold qo9; go_simp
       refine (bytes_two 4 8 (by omega) rfl x y p k g8 HX.out.1 HX.out.2.1 (by have := HX.out; omega) (by have := HX.out; omega) _ ((S3.out.trans S4.out).some P8.out.1) ((S3.out.trans S4.out).some P8.out.2)).mono ?_
       rintro e y5 ⟨g9, rfl, l9, b5⟩
       have L9 := Lib.hid l9
       have D5 := Lib.hid b5
       have B5 := Lib.hid (below_call B4.out b5)
       have S5 := Lib.hid (Same.of b5)
       clear l9 b5
       go_wp2_with fail
       refine hK.out _ _ ?_ (fun hHeld => ?_)
       ·exact HC.out _ B5.out
       clear hK K
       (try simp only [Act.put, List.setIfInBounds_toArray, List.set_cons_zero, List.set_cons_succ])
       refine wpAnyH_ready (rs := [15]) (by kernel_rfl) (by simp) ?_
       refine AllReadyH.cons (o := qo15) rfl (fun K hK => ?_) ?_
       ·unfold qo15; go_simp
        refine (bytes_two 8 16 (by omega) rfl (o : Int) (n : Int) o n g14 rfl rfl HX.out.2.2.2.2.1 HX.out.2.2.2.2.2 _ ((((S2.out.trans S3.out).trans S4.out).trans S5.out).some P14.out.1) ((((S2.out.trans S3.out).trans S4.out).trans S5.out).some P14.out.2)).mono ?_
        rintro e y6 ⟨g15, rfl, l15, b6⟩
        have L15 := Lib.hid l15
        have D6 := Lib.hid b6
        have B6 := Lib.hid (below_call B5.out b6)
        have S6 := Lib.hid (Same.of b6)
        clear l15 b6
        go_wp2_with fail
        refine hK.out _ _ ?_ (fun hHeld => ?_)
        ·exact HC.out _ B6.out
        clear hK K
        (try simp only [Act.put, List.setIfInBounds_toArray, List.set_cons_zero, List.set_cons_succ])
        refine wpAnyH_ready (rs := [16]) (by kernel_rfl) (by simp) ?_
        refine AllReadyH.cons (o := qo16) rfl (fun K hK => ?_) ?_
        ·unfold qo16; go_simp
         obtain ⟨y7, hy7⟩ : ∃ z, z = y6.alloc (.cells #[.slice (some ⟨g0, 0, none⟩) 8 8, .slice (some ⟨g9, 0, none⟩) 8 8, .slice (some ⟨g15, 0, none⟩) 16 16] 22) := ⟨_, rfl⟩
         obtain ⟨g16, hg16⟩ : ∃ z, z = y6.heap.size := ⟨_, rfl⟩
         have D7 := Lib.hid (show Below y6.heap.size y6 y7 from by rw [hy7]; exact below_new _ _)
         have B7 := Lib.hid (below_call B6.out D7.out)
         have S7 := Lib.hid (Same.of D7.out)
         have P16 := Lib.hid (show y7.cell? ⟨g16, 0, none⟩ = _ ∧ y7.cell? ⟨g16, 1, none⟩ = _ ∧ y7.cell? ⟨g16, 2, none⟩ = _ from by rw [hy7, hg16]; exact three_cells _ _ _ _)
         rw [← hg16, ← hy7]
         clear hy7 hg16
         refine hK.out _ _ ?_ (fun hHeld => ?_)
         ·exact HC.out _ B7.out
         clear hK K
         (try simp only [Act.put, List.setIfInBounds_toArray, List.set_cons_zero, List.set_cons_succ])
         refine wpAnyH_ready (rs := [17]) (by kernel_rfl) (by simp) ?_
         refine AllReadyH.cons (o := qo17) rfl (fun K hK => ?_) ?_
         ·unfold qo17; go_simp
          refine (join8 p k o n _ g16 y7.heap.size g0 g9 g15 rfl P16.out (L0.out.keep (((S4.out.trans S5.out).trans S6.out).trans S7.out).cell) (L9.out.keep (S6.out.trans S7.out).cell) (L15.out.keep S7.out.cell)).mono ?_
          rintro e y8 ⟨rfl, o8, b8, z8⟩
          have B8 := Lib.hid (below_call B7.out b8)
          have Z := Lib.hid (show _ ∧ _ ∧ w1.heap.size ≤ y7.heap.size from And.intro o8 (And.intro z8 B7.out.size))
          clear o8 z8 b8
          generalize y7.heap.size = gf at *
          go_wp2_with fail
          refine hK.out _ _ ?_ (fun hHeld => ?_)
          ·exact HC.out _ B8.out
          clear hK K
          (try simp only [Act.put, List.setIfInBounds_toArray, List.set_cons_zero, List.set_cons_succ])
          refine wpAnyH_take (i := 18) (oi := qo18) (v := ?_) rfl (by kernel_rfl) (by kernel_rfl) (by kernel_rfl) (fun _ _ _ h => h) (Or.inl ⟨by rfl, ?_⟩) (by assumption) ?_
          rotate_left
          ·(intro w hSw; (try dsimp only at hSw); unfold qo18; go_simp) <;> with_reducible rfl
          unfold qo18; (try simp only [Act.put, List.setIfInBounds_toArray, List.set_cons_zero, List.set_cons_succ])
          refine wpAnyH_done (by kernel_rfl) ?_ _
          refine NoPanic.normal ?_
          go_wp2_with fail
          go_ret
          exact ⟨gf, rfl, fin8 BB.out.1 B8.out Z.out⟩
         exact AllReadyH.nil
        exact AllReadyH.nil
       exact AllReadyH.nil
      exact AllReadyH.nil
     refine AllReadyH.cons (o := qo9) rfl (fun K hK => ?_) ?_
     ·unfold qo9; go_simp
      refine (bytes_two 4 8 (by omega) rfl x y p k g8 HX.out.1 HX.out.2.1 (by have := HX.out; omega) (by have := HX.out; omega) _ (S3.out.some P8.out.1) (S3.out.some P8.out.2)).mono ?_
      rintro e y4 ⟨g9, rfl, l9, b4⟩
      have L9 := Lib.hid l9
      have D4 := Lib.hid b4
      have B4 := Lib.hid (below_call B3.out b4)
      have S4 := Lib.hid (Same.of b4)
      clear l9 b4
      go_wp2_with fail
      refine hK.out _ _ ?_ (fun hHeld => ?_)
      ·exact HC.out _ B4.out
      clear hK K
      (try simp only [Act.put, List.setIfInBounds_toArray, List.set_cons_zero, List.set_cons_succ])
      refine wpAnyH_ready (rs := [1, 15]) (by kernel_rfl) (by simp) ?_
      refine AllReadyH.cons (o := qo1) rfl (fun K hK => ?_) ?_
      ·unfold qo1
       obtain ⟨y5, hcv, s5, t5⟩ := conv_mark y4 g0 8 8 _ ((D4.out.block g0 (by have := K0s.out; omega)).trans K0.out)
       have S5 := Lib.hid s5
       have B5 := Lib.hid (t5 _ _ B4.out K0s.out.2)
       clear s5 t5
       go_simp
       clear hcv
       refine hK.out _ _ ?_ (fun hHeld => ?_)
       ·exact HC.out _ B5.out
       clear hK K
       (try simp only [Act.put, List.setIfInBounds_toArray, List.set_cons_zero, List.set_cons_succ])
       refine wpAnyH_ready (rs := [15]) (by kernel_rfl) (by simp) ?_
       refine AllReadyH.cons (o := qo15) rfl (fun K hK => ?_) ?_
       ·unfold qo15; go_simp
        refine (bytes_two 8 16 (by omega) rfl (o : Int) (n : Int) o n g14 rfl rfl HX.out.2.2.2.2.1 HX.out.2.2.2.2.2 _ ((((S2.out.trans S3.out).trans S4.out).trans S5.out).some P14.out.1) ((((S2.out.trans S3.out).trans S4.out).trans S5.out).some P14.out.2)).mono ?_
        rintro e y6 ⟨g15, rfl, l15, b6⟩
        have L15 := Lib.hid l15
        have D6 := Lib.hid b6
        have B6 := Lib.hid (below_call B5.out b6)
        have S6 := Lib.hid (Same.of b6)
        clear l15 b6
        go_wp2_with fail
        refine hK.out _ _ ?_ (fun hHeld => ?_)
        ·exact HC.out _ B6.out
        clear hK K
        (try simp only [Act.put, List.setIfInBounds_toArray, List.set_cons_zero, List.set_cons_succ])
        refine wpAnyH_ready (rs := [16]) (by kernel_rfl) (by simp) ?_
        refine AllReadyH.cons (o := qo16) rfl (fun K hK => ?_) ?_
        ·unfold qo16; go_simp
         obtain ⟨y7, hy7⟩ : ∃ z, z = y6.alloc (.cells #[.slice (some ⟨g0, 0, none⟩) 8 8, .slice (some ⟨g9, 0, none⟩) 8 8, .slice (some ⟨g15, 0, none⟩) 16 16] 22) := ⟨_, rfl⟩
         obtain ⟨g16, hg16⟩ : ∃ z, z = y6.heap.size := ⟨_, rfl⟩
         have D7 := Lib.hid (show Below y6.heap.size y6 y7 from by rw [hy7]; exact below_new _ _)
         have B7 := Lib.hid (below_call B6.out D7.out)
         have S7 := Lib.hid (Same.of D7.out)
         have P16 := Lib.hid (show y7.cell? ⟨g16, 0, none⟩ = _ ∧ y7.cell? ⟨g16, 1, none⟩ = _ ∧ y7.cell? ⟨g16, 2, none⟩ = _ from by rw [hy7, hg16]; exact three_cells _ _ _ _)
         rw [← hg16, ← hy7]
         clear hy7 hg16
         refine hK.out _ _ ?_ (fun hHeld => ?_)
         ·exact HC.out _ B7.out
         clear hK K
         (try simp only [Act.put, List.setIfInBounds_toArray, List.set_cons_zero, List.set_cons_succ])
         refine wpAnyH_ready (rs := [17]) (by kernel_rfl) (by simp) ?_
         refine AllReadyH.cons (o := qo17) rfl (fun K hK => ?_) ?_
         ·unfold qo17; go_simp
          refine (join8 p k o n _ g16 y7.heap.size g0 g9 g15 rfl P16.out (L0.out.keep (((S4.out.trans S5.out).trans S6.out).trans S7.out).cell) (L9.out.keep ((S5.out.trans S6.out).trans S7.out).cell) (L15.out.keep S7.out.cell)).mono ?_
          rintro e y8 ⟨rfl, o8, b8, z8⟩
          have B8 := Lib.hid (below_call B7.out b8)
          have Z := Lib.hid (show _ ∧ _ ∧ w1.heap.size ≤ y7.heap.size from And.intro o8 (And.intro z8 B7.out.size))
          clear o8 z8 b8
          generalize y7.heap.size = gf at *
          go_wp2_with fail
          refine hK.out _ _ ?_ (fun hHeld => ?_)
          ·exact HC.out _ B8.out
          clear hK K
          (try simp only [Act.put, List.setIfInBounds_toArray, List.set_cons_zero, List.set_cons_succ])
          refine wpAnyH_take (i := 18) (oi := qo18) (v := ?_) rfl (by kernel_rfl) (by kernel_rfl) (by kernel_rfl) (fun _ _ _ h => h) (Or.inl ⟨by rfl, ?_⟩) (by assumption) ?_
          rotate_left
          ·(intro w hSw; (try dsimp only at hSw); unfold qo18; go_simp) <;> with_reducible rfl
          unfold qo18; (try simp only [Act.put, List.setIfInBounds_toArray, List.set_cons_zero, List.set_cons_succ])
          refine wpAnyH_done (by kernel_rfl) ?_ _
          refine NoPanic.normal ?_
          go_wp2_with fail
          go_ret
          exact ⟨gf, rfl, fin8 BB.out.1 B8.out Z.out⟩
         exact AllReadyH.nil
        exact AllReadyH.nil
       exact AllReadyH.nil
      refine AllReadyH.cons (o := qo15) rfl (fun K hK => ?_) ?_
      ·unfold qo15; go_simp
       refine (bytes_two 8 16 (by omega) rfl (o : Int) (n : Int) o n g14 rfl rfl HX.out.2.2.2.2.1 HX.out.2.2.2.2.2 _ (((S2.out.trans S3.out).trans S4.out).some P14.out.1) (((S2.out.trans S3.out).trans S4.out).some P14.out.2)).mono ?_
       rintro e y5 ⟨g15, rfl, l15, b5⟩
       have L15 := Lib.hid l15
       have D5 := Lib.hid b5
       have B5 := Lib.hid (below_call B4.out b5)
       have S5 := Lib.hid (Same.of b5)
       clear l15 b5
       go_wp2_with fail
       refine hK.out _ _ ?_ (fun hHeld => ?_)
       ·exact HC.out _ B5.out
       clear hK K
       (try simp only [Act.put, List.setIfInBounds_toArray, List.set_cons_zero, List.set_cons_succ])
       refine wpAnyH_ready (rs := [1]) (by kernel_rfl) (by simp) ?_
       refine AllReadyH.cons (o := qo1) rfl (fun K hK => ?_) ?_
       ·unfold qo1
        obtain ⟨y6, hcv, s6, t6⟩ := conv_mark y5 g0 8 8 _ ((D5.out.block g0 (by have := K0s.out; have := D4.out.size; omega)).trans ((D4.out.block g0 (by have := K0s.out; omega)).trans K0.out))
        have S6 := Lib.hid s6
        have B6 := Lib.hid (t6 _ _ B5.out K0s.out.2)
        clear s6 t6
        go_simp
        clear hcv
        refine hK.out _ _ ?_ (fun hHeld => ?_)
        ·exact HC.out _ B6.out
        clear hK K
        (try simp only [Act.put, List.setIfInBounds_toArray, List.set_cons_zero, List.set_cons_succ])
        refine wpAnyH_ready (rs := [16]) (by kernel_rfl) (by simp) ?_
        refine AllReadyH.cons (o := qo16) rfl (fun K hK => ?_) ?_
        ·unfold qo16; go_simp
         obtain ⟨y7, hy7⟩ : ∃ z, z = y6.alloc (.cells #[.slice (some ⟨g0, 0, none⟩) 8 8, .slice (some ⟨g9, 0, none⟩) 8 8, .slice (some ⟨g15, 0, none⟩) 16 16] 22) := ⟨_, rfl⟩
         obtain ⟨g16, hg16⟩ : ∃ z, z = y6.heap.size := ⟨_, rfl⟩
         have D7 := Lib.hid (show Below y6.heap.size y6 y7 from by rw [hy7]; exact below_new _ _)
         have B7 := Lib.hid (below_call B6.out D7.out)
         have S7 := Lib.hid (Same.of D7.out)
         have P16 := Lib.hid (show y7.cell? ⟨g16, 0, none⟩ = _ ∧ y7.cell? ⟨g16, 1, none⟩ = _ ∧ y7.cell? ⟨g16, 2, none⟩ = _ from by rw [hy7, hg16]; exact three_cells _ _ _ _)
         rw [← hg16, ← hy7]
         clear hy7 hg16
         refine hK.out _ _ ?_ (fun hHeld => ?_)
         ·exact HC.out _ B7.out
         clear hK K
         (try simp only [Act.put, List.setIfInBounds_toArray, List.set_cons_zero, List.set_cons_succ])
         refine wpAnyH_ready (rs := [17]) (by kernel_rfl) (by simp) ?_
         refine AllReadyH.cons (o := qo17) rfl (fun K hK => ?_) ?_
         ·unfold qo17; go_simp
          refine (join8 p k o n _ g16 y7.heap.size g0 g9 g15 rfl P16.out (L0.out.keep (((S4.out.trans S5.out).trans S6.out).trans S7.out).cell) (L9.out.keep ((S5.out.trans S6.out).trans S7.out).cell) (L15.out.keep (S6.out.trans S7.out).cell)).mono ?_
          rintro e y8 ⟨rfl, o8, b8, z8⟩
          have B8 := Lib.hid (below_call B7.out b8)
          have Z := Lib.hid (show _ ∧ _ ∧ w1.heap.size ≤ y7.heap.size from And.intro o8 (And.intro z8 B7.out.size))
          clear o8 z8 b8
          generalize y7.heap.size = gf at *
          go_wp2_with fail
          refine hK.out _ _ ?_ (fun hHeld => ?_)
          ·exact HC.out _ B8.out
          clear hK K
          (try simp only [Act.put, List.setIfInBounds_toArray, List.set_cons_zero, List.set_cons_succ])
          refine wpAnyH_take (i := 18) (oi := qo18) (v := ?_) rfl (by kernel_rfl) (by kernel_rfl) (by kernel_rfl) (fun _ _ _ h => h) (Or.inl ⟨by rfl, ?_⟩) (by assumption) ?_
          rotate_left
          ·(intro w hSw; (try dsimp only at hSw); unfold qo18; go_simp) <;> with_reducible rfl
          unfold qo18; (try simp only [Act.put, List.setIfInBounds_toArray, List.set_cons_zero, List.set_cons_succ])
          refine wpAnyH_done (by kernel_rfl) ?_ _
          refine NoPanic.normal ?_
          go_wp2_with fail
          go_ret
          exact ⟨gf, rfl, fin8 BB.out.1 B8.out Z.out⟩
         exact AllReadyH.nil
        exact AllReadyH.nil
       exact AllReadyH.nil
      exact AllReadyH.nil
     exact AllReadyH.nil
    refine AllReadyH.cons (o := qo9) rfl (fun K hK => ?_) ?_
    ·unfold qo9; go_simp
     refine (bytes_two 4 8 (by omega) rfl x y p k g8 HX.out.1 HX.out.2.1 (by have := HX.out; omega) (by have := HX.out; omega) _ ((Same.refl _).some P8.out.1) ((Same.refl _).some P8.out.2)).mono ?_
     rintro e y3 ⟨g9, rfl, l9, b3⟩
     have L9 := Lib.hid l9
     have D3 := Lib.hid b3
     have B3 := Lib.hid (below_call B2.out b3)
     have S3 := Lib.hid (Same.of b3)
     clear l9 b3
     go_wp2_with fail
     refine hK.out _ _ ?_ (fun hHeld => ?_)
     ·exact HC.out _ B3.out
     clear hK K
     (try simp only [Act.put, List.setIfInBounds_toArray, List.set_cons_zero, List.set_cons_succ])
     refine wpAnyH_ready (rs := [0, 15]) (by kernel_rfl) (by simp) ?_
     refine AllReadyH.cons (o := qo0) rfl (fun K hK => ?_) ?_
     ·unfold qo0; go_simp
      obtain ⟨y4, hy4⟩ : ∃ z, z = y3.alloc (.cells #[.int .u8 115, .int .u8 116, .int .u8 101, .int .u8 97, .int .u8 100, .int .u8 105, .int .u8 110, .int .u8 103] 5) := ⟨_, rfl⟩
      obtain ⟨g0, hg0⟩ : ∃ z, z = y3.heap.size := ⟨_, rfl⟩
      have D4 := Lib.hid (show Below y3.heap.size y3 y4 from by rw [hy4]; exact below_new _ _)
      have B4 := Lib.hid (below_call B3.out D4.out)
      have S4 := Lib.hid (Same.of D4.out)
      have L0 := Lib.hid (show Lies y4 (some ⟨g0, 0, none⟩) (u8s M.mark) from by rw [hy4, hg0]; exact mark_lies _)
      have K0 := Lib.hid (show y4.heap[g0]? = some (.cells #[.int .u8 115, .int .u8 116, .int .u8 101, .int .u8 97, .int .u8 100, .int .u8 105, .int .u8 110, .int .u8 103] 5) from by rw [hy4, hg0]; exact at_new_block _ _)
      have K0s := Lib.hid (show g0 < y4.heap.size ∧ w1.heap.size ≤ g0 from ⟨by rw [hy4, hg0]; simp, by rw [hg0]; exact B3.out.size⟩)
      rw [← hg0, ← hy4]
      clear hy4 hg0
      refine hK.out _ _ ?_ (fun hHeld => ?_)
      ·exact HC.out _ B4.out
      clear hK K
      (try simp only [Act.put, List.setIfInBounds_toArray, List.set_cons_zero, List.set_cons_succ])
      refine wpAnyH_ready (rs := [1, 15]) (by kernel_rfl) (by simp) ?_
      refine AllReadyH.cons (o := qo1) rfl (fun K hK => ?_) ?_
      ·unfold qo1
       obtain ⟨y5, hcv, s5, t5⟩ := conv_mark y4 g0 8 8 _ K0.out
       have S5 := Lib.hid s5
       have B5 := Lib.hid (t5 _ _ B4.out K0s.out.2)
       clear s5 t5
       go_simp
       clear hcv
       refine hK.out _ _ ?_ (fun hHeld => ?_)
       ·exact HC.out _ B5.out
       clear hK K
       (try simp only [Act.put, List.setIfInBounds_toArray, List.set_cons_zero, List.set_cons_succ])
       refine wpAnyH_ready (rs := [15]) (by kernel_rfl) (by simp) ?_
       refine AllReadyH.cons (o := qo15) rfl (fun K hK => ?_) ?_
       ·unfold qo15; go_simp
        refine (bytes_two 8 16 (by omega) rfl (o : Int) (n : Int) o n g14 rfl rfl HX.out.2.2.2.2.1 HX.out.2.2.2.2.2 _ ((((S2.out.trans S3.out).trans S4.out).trans S5.out).some P14.out.1) ((((S2.out.trans S3.out).trans S4.out).trans S5.out).some P14.out.2)).mono ?_
        rintro e y6 ⟨g15, rfl, l15, b6⟩
        have L15 := Lib.hid l15
        have D6 := Lib.hid b6
        have B6 := Lib.hid (below_call B5.out b6)
        have S6 := Lib.hid (Same.of b6)
        clear l15 b6
        go_wp2_with fail
        refine hK.out _ _ ?_ (fun hHeld => ?_)
        ·exact HC.out _ B6.out
        clear hK K
        (try simp only [Act.put, List.setIfInBounds_toArray, List.set_cons_zero, List.set_cons_succ])
        refine wpAnyH_ready (rs := [16]) (by kernel_rfl) (by simp) ?_
        refine AllReadyH.cons (o := qo16) rfl (fun K hK => ?_) ?_
        ·unfold qo16; go_simp
         obtain ⟨y7, hy7⟩ : ∃ z, z = y6.alloc (.cells #[.slice (some ⟨g0, 0, none⟩) 8 8, .slice (some ⟨g9, 0, none⟩) 8 8, .slice (some ⟨g15, 0, none⟩) 16 16] 22) := ⟨_, rfl⟩
         obtain ⟨g16, hg16⟩ : ∃ z, z = y6.heap.size := ⟨_, rfl⟩
         have D7 := Lib.hid (show Below y6.heap.size y6 y7 from by rw [hy7]; exact below_new _ _)
         have B7 := Lib.hid (below_call B6.out D7.out)
         have S7 := Lib.hid (Same.of D7.out)
         have P16 := Lib.hid (show y7.cell? ⟨g16, 0, none⟩ = _ ∧ y7.cell? ⟨g16, 1, none⟩ = _ ∧ y7.cell? ⟨g16, 2, none⟩ = _ from by rw [hy7, hg16]; exact three_cells _ _ _ _)
         rw [← hg16, ← hy7]
         clear hy7 hg16
         refine hK.out _ _ ?_ (fun hHeld => ?_)
         ·exact HC.out _ B7.out
         clear hK K
         (try simp only [Act.put, List.setIfInBounds_toArray, List.set_cons_zero, List.set_cons_succ])
         refine wpAnyH_ready (rs := [17]) (by kernel_rfl) (by simp) ?_
         refine AllReadyH.cons (o := qo17) rfl (fun K hK => ?_) ?_
         ·unfold qo17; go_simp
          refine (join8 p k o n _ g16 y7.heap.size g0 g9 g15 rfl P16.out (L0.out.keep ((S5.out.trans S6.out).trans S7.out).cell) (L9.out.keep (((S4.out.trans S5.out).trans S6.out).trans S7.out).cell) (L15.out.keep S7.out.cell)).mono ?_
          rintro e y8 ⟨rfl, o8, b8, z8⟩
          have B8 := Lib.hid (below_call B7.out b8)
          have Z := Lib.hid (show _ ∧ _ ∧ w1.heap.size ≤ y7.heap.size from And.intro o8 (And.intro z8 B7.out.size))
          clear o8 z8 b8
          generalize y7.heap.size = gf at *
          go_wp2_with fail
          refine hK.out _ _ ?_ (fun hHeld => ?_)
          ·exact HC.out _ B8.out
          clear hK K
          (try simp only [Act.put, List.setIfInBounds_toArray, List.set_cons_zero, List.set_cons_succ])
          refine wpAnyH_take (i := 18) (oi := qo18) (v := ?_) rfl (by kernel_rfl) (by kernel_rfl) (by kernel_rfl) (fun _ _ _ h => h) (Or.inl ⟨by rfl, ?_⟩) (by assumption) ?_
          rotate_left
          ·(intro w hSw; (try dsimp only at hSw); unfold qo18; go_simp) <;> with_reducible rfl
          unfold qo18; (try simp only [Act.put, List.setIfInBounds_toArray, List.set_cons_zero, List.set_cons_succ])
          refine wpAnyH_done (by kernel_rfl) ?_ _
          refine NoPanic.normal ?_
          go_wp2_with fail
          go_ret
          exact ⟨gf, rfl, fin8 BB.out.1 B8.out Z.out⟩
         exact AllReadyH.nil
        exact AllReadyH.nil
       exact AllReadyH.nil
      refine AllReadyH.cons (o := qo15) rfl (fun K hK => ?_) ?_
      ·unfold qo15; go_simp
       refine (bytes_two 8 16 (by omega) rfl (o : Int) (n : Int) o n g14 rfl rfl HX.out.2.2.2.2.1 HX.out.2.2.2.2.2 _ (((S2.out.trans S3.out).trans S4.out).some P14.out.1) (((S2.out.trans S3.out).trans S4.out).some P14.out.2)).mono ?_
       rintro e y5 ⟨g15, rfl, l15, b5⟩
       have L15 := Lib.hid l15
       have D5 := Lib.hid b5
       have B5 := Lib.hid (below_call B4.out b5)
       have S5 := Lib.hid (Same.of b5)
       clear l15 b5
       go_wp2_with fail
       refine hK.out _ _ ?_ (fun hHeld => ?_)
       ·exact HC.out _ B5.out
       clear hK K
       (try simp only [Act.put, List.setIfInBounds_toArray, List.set_cons_zero, List.set_cons_succ])
       refine wpAnyH_ready (rs := [1]) (by kernel_rfl) (by simp) ?_
       refine AllReadyH.cons (o := qo1) rfl (fun K hK => ?_) ?_
       ·unfold qo1
        obtain ⟨y6, hcv, s6, t6⟩ := conv_mark y5 g0 8 8 _ ((D5.out.block g0 (by have := K0s.out; omega)).trans K0.out)
        have S6 := Lib.hid s6
        have B6 := Lib.hid (t6 _ _ B5.out K0s.out.2)
        clear s6 t6
        go_simp
        clear hcv
        refine hK.out _ _ ?_ (fun hHeld => ?_)
        ·exact HC.out _ B6.out
        clear hK K
        (try simp only [Act.put, List.setIfInBounds_toArray, List.set_cons_zero, List.set_cons_succ])
        refine wpAnyH_ready (rs := [16]) (by kernel_rfl) (by simp) ?_
        refine AllReadyH.cons (o := qo16) rfl (fun K hK => ?_) ?_
        ·unfold qo16; go_simp
         obtain ⟨y7, hy7⟩ : ∃ z, z = y6.alloc (.cells #[.slice (some ⟨g0, 0, none⟩) 8 8, .slice (some ⟨g9, 0, none⟩) 8 8, .slice (some ⟨g15, 0, none⟩) 16 16] 22) := ⟨_, rfl⟩
         obtain ⟨g16, hg16⟩ : ∃ z, z = y6.heap.size := ⟨_, rfl⟩
         have D7 := Lib.hid (show Below y6.heap.size y6 y7 from by rw [hy7]; exact below_new _ _)
         have B7 := Lib.hid (below_call B6.out D7.out)
         have S7 := Lib.hid (Same.of D7.out)
         have P16 := Lib.hid (show y7.cell? ⟨g16, 0, none⟩ = _ ∧ y7.cell? ⟨g16, 1, none⟩ = _ ∧ y7.cell? ⟨g16, 2, none⟩ = _ from by rw [hy7, hg16]; exact three_cells _ _ _ _)
         rw [← hg16, ← hy7]
         clear hy7 hg16
         refine hK.out _ _ ?_ (fun hHeld => ?_)
         ·exact HC.out _ B7.out
         clear hK K
         (try simp only [Act.put, List.setIfInBounds_toArray, List.set_cons_zero, List.set_cons_succ])
         refine wpAnyH_ready (rs := [17]) (by kernel_rfl) (by simp) ?_
         refine AllReadyH.cons (o := qo17) rfl (fun K hK => ?_) ?_
         ·unfold qo17; go_simp
          refine (join8 p k o n _ g16 y7.heap.size g0 g9 g15 rfl P16.out (L0.out.keep ((S5.out.trans S6.out).trans S7.out).cell) (L9.out.keep (((S4.out.trans S5.out).trans S6.out).trans S7.out).cell) (L15.out.keep (S6.out.trans S7.out).cell)).mono ?_
          rintro e y8 ⟨rfl, o8, b8, z8⟩
          have B8 := Lib.hid (below_call B7.out b8)
          have Z := Lib.hid (show _ ∧ _ ∧ w1.heap.size ≤ y7.heap.size from And.intro o8 (And.intro z8 B7.out.size))
          clear o8 z8 b8
          generalize y7.heap.size = gf at *
          go_wp2_with fail
          refine hK.out _ _ ?_ (fun hHeld => ?_)
          ·exact HC.out _ B8.out
          clear hK K
          (try simp only [Act.put, List.setIfInBounds_toArray, List.set_cons_zero, List.set_cons_succ])
          refine wpAnyH_take (i := 18) (oi := qo18) (v := ?_) rfl (by kernel_rfl) (by kernel_rfl) (by kernel_rfl) (fun _ _ _ h => h) (Or.inl ⟨by rfl, ?_⟩) (by assumption) ?_
          rotate_left
          ·(intro w hSw; (try dsimp only at hSw); unfold qo18; go_simp) <;> with_reducible rfl
          unfold qo18; (try simp only [Act.put, List.setIfInBounds_toArray, List.set_cons_zero, List.set_cons_succ])
          refine wpAnyH_done (by kernel_rfl) ?_ _
          refine NoPanic.normal ?_
          go_wp2_with fail
          go_ret
          exact ⟨gf, rfl, fin8 BB.out.1 B8.out Z.out⟩
         exact AllReadyH.nil
        exact AllReadyH.nil
       exact AllReadyH.nil
      exact AllReadyH.nil
     refine AllReadyH.cons (o := qo15) rfl (fun K hK => ?_) ?_
     ·unfold qo15; go_simp
      refine (bytes_two 8 16 (by omega) rfl (o : Int) (n : Int) o n g14 rfl rfl HX.out.2.2.2.2.1 HX.out.2.2.2.2.2 _ ((S2.out.trans S3.out).some P14.out.1) ((S2.out.trans S3.out).some P14.out.2)).mono ?_
      rintro e y4 ⟨g15, rfl, l15, b4⟩
      have L15 := Lib.hid l15
      have D4 := Lib.hid b4
      have B4 := Lib.hid (below_call B3.out b4)
      have S4 := Lib.hid (Same.of b4)
      clear l15 b4
      go_wp2_with fail
      refine hK.out _ _ ?_ (fun hHeld => ?_)
      ·exact HC.out _ B4.out
      clear hK K
      (try simp only [Act.put, List.setIfInBounds_toArray, List.set_cons_zero, List.set_cons_succ])
      refine wpAnyH_ready (rs := [0]) (by kernel_rfl) (by simp) ?_
      refine AllReadyH.cons (o := qo0) rfl (fun K hK => ?_) ?_
      ·unfold qo0; go_simp
       obtain ⟨y5, hy5⟩ : ∃ z, z = y4.alloc (.cells #[.int .u8 115, .int .u8 116, .int .u8 101, .int .u8 97, .int .u8 100, .int .u8 105, .int .u8 110, .int .u8 103] 5) := ⟨_, rfl⟩
       obtain ⟨g0, hg0⟩ : ∃ z, z = y4.heap.size := ⟨_, rfl⟩
       have D5 := Lib.hid (show Below y4.heap.size y4 y5 from by rw [hy5]; exact below_new _ _)
       have B5 := Lib.hid (below_call B4.out D5.out)
       have S5 := Lib.hid (Same.of D5.out)
       have L0 := Lib.hid (show Lies y5 (some ⟨g0, 0, none⟩) (u8s M.mark) from by rw [hy5, hg0]; exact mark_lies _)
       have K0 := Lib.hid (show y5.heap[g0]? = some (.cells #[.int .u8 115, .int .u8 116, .int .u8 101, .int .u8 97, .int .u8 100, .int .u8 105, .int .u8 110, .int .u8 103] 5) from by rw [hy5, hg0]; exact at_new_block _ _)
       have K0s := Lib.hid (show g0 < y5.heap.size ∧ w1.heap.size ≤ g0 from ⟨by rw [hy5, hg0]; simp, by rw [hg0]; exact B4.out.size⟩)
       rw [← hg0, ← hy5]
       clear hy5 hg0
       refine hK.out _ _ ?_ (fun hHeld => ?_)
       ·exact HC.out _ B5.out
       clear hK K
       (try simp only [Act.put, List.setIfInBounds_toArray, List.set_cons_zero, List.set_cons_succ])
       refine wpAnyH_ready (rs := [1]) (by kernel_rfl) (by simp) ?_
       refine AllReadyH.cons (o := qo1) rfl (fun K hK => ?_) ?_
       ·unfold qo1
        obtain ⟨y6, hcv, s6, t6⟩ := conv_mark y5 g0 8 8 _ K0.out
        have S6 := Lib.hid s6
        have B6 := Lib.hid (t6 _ _ B5.out K0s.out.2)
        clear s6 t6
        go_simp
        clear hcv
        refine hK.out _ _ ?_ (fun hHeld => ?_)
        ·exact HC.out _ B6.out
        clear hK K
        (try simp only [Act.put, List.setIfInBounds_toArray, List.set_cons_zero, List.set_cons_succ])
        refine wpAnyH_ready (rs := [16]) (by kernel_rfl) (by simp) ?_
        refine AllReadyH.cons (o := qo16) rfl (fun K hK => ?_) ?_
        ·unfold qo16; go_simp
         obtain ⟨y7, hy7⟩ : ∃ z, z = y6.alloc (.cells #[.slice (some ⟨g0, 0, none⟩) 8 8, .slice (some ⟨g9, 0, none⟩) 8 8, .slice (some ⟨g15, 0, none⟩) 16 16] 22) := ⟨_, rfl⟩
         obtain ⟨g16, hg16⟩ : ∃ z, z = y6.heap.size := ⟨_, rfl⟩
         have D7 := Lib.hid (show Below y6.heap.size y6 y7 from by rw [hy7]; exact below_new _ _)
         have B7 := Lib.hid (below_call B6.out D7.out)
         have S7 := Lib.hid (Same.of D7.out)
         have P16 := Lib.hid (show y7.cell? ⟨g16, 0, none⟩ = _ ∧ y7.cell? ⟨g16, 1, none⟩ = _ ∧ y7.cell? ⟨g16, 2, none⟩ = _ from by rw [hy7, hg16]; exact three_cells _ _ _ _)
         rw [← hg16, ← hy7]
         clear hy7 hg16
         refine hK.out _ _ ?_ (fun hHeld => ?_)
         ·exact HC.out _ B7.out
         clear hK K
         (try simp only [Act.put, List.setIfInBounds_toArray, List.set_cons_zero, List.set_cons_succ])
         refine wpAnyH_ready (rs := [17]) (by kernel_rfl) (by simp) ?_
         refine AllReadyH.cons (o := qo17) rfl (fun K hK => ?_) ?_
         ·unfold qo17; go_simp
          refine (join8 p k o n _ g16 y7.heap.size g0 g9 g15 rfl P16.out (L0.out.keep (S6.out.trans S7.out).cell) (L9.out.keep (((S4.out.trans S5.out).trans S6.out).trans S7.out).cell) (L15.out.keep ((S5.out.trans S6.out).trans S7.out).cell)).mono ?_
          rintro e y8 ⟨rfl, o8, b8, z8⟩
          have B8 := Lib.hid (below_call B7.out b8)
          have Z := Lib.hid (show _ ∧ _ ∧ w1.heap.size ≤ y7.heap.size from And.intro o8 (And.intro z8 B7.out.size))
          clear o8 z8 b8
          generalize y7.heap.size = gf at *
          go_wp2_with fail
          refine hK.out _ _ ?_ (fun hHeld => ?_)
          ·exact HC.out _ B8.out
          clear hK K
          (try simp only [Act.put, List.setIfInBounds_toArray, List.set_cons_zero, List.set_cons_succ])
          refine wpAnyH_take (i := 18) (oi := qo18) (v := ?_) rfl (by kernel_rfl) (by kernel_rfl) (by kernel_rfl) (fun _ _ _ h => h) (Or.inl ⟨by rfl, ?_⟩) (by assumption) ?_
          rotate_left
          ·(intro w hSw; (try dsimp only at hSw); unfold qo18; go_simp) <;> with_reducible rfl
          unfold qo18; (try simp only [Act.put, List.setIfInBounds_toArray, List.set_cons_zero, List.set_cons_succ])
          refine wpAnyH_done (by kernel_rfl) ?_ _
          refine NoPanic.normal ?_
          go_wp2_with fail
          go_ret
          exact ⟨gf, rfl, fin8 BB.out.1 B8.out Z.out⟩
         exact AllReadyH.nil
        exact AllReadyH.nil
       exact AllReadyH.nil
      exact AllReadyH.nil
     exact AllReadyH.nil
    exact AllReadyH.nil
   exact AllReadyH.nil
  exact AllReadyH.nil
end Go.Proofs.Ytmagdhcpbofkbaa
