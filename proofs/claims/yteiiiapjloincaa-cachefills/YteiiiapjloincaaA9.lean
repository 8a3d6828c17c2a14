/-
  All of a Cache.
-/
import Derived.Test.YteiiiapjloincaaP9
namespace Go.Proofs.Yteiiiapjloincaa
open Go.ChangeShapes Go.WideShapes Go.ChangeAt Go.RowKit Go.Deep
set_option linter.unusedVariables false
set_option maxRecDepth 20000

theorem made56 : madeCells #[Value.int .i64 0, Value.int .i64 0] 56 = (List.replicate 56 (Value.int .i64 0)).toArray := by kernel_rfl
theorem run_make28 (w : World) : (Instr.makeSlice 47 (.int .i64 28) (.int .i64 28)).run Try.prog w = .ok (.slice (some ⟨w.heap.size, 0, none⟩) 28 28) (w.alloc (.cells (List.replicate 56 (Value.int .i64 0)).toArray 27)) := by
  obtain ⟨i, hi, hz, hs, hb⟩ := info36
  have := run_make w 47 27 i _ Try.underlying47 hi hz .i64 .i64 28 28 (by omega) (by omega) (by rw [hb]; omega) (by omega)
  rw [this, hs, ← made56]
  rfl
/-- What All answers: a list of runs in new memory. -/
def AllGot (w : World) (l : List M.R) (e : Ending) (w' : World) : Prop := ∃ g z, e = .returned (.slice (some ⟨g, 0, none⟩) z 28) ∧ z = l.length ∧ z ≤ 28 ∧ Runs w' (some ⟨g, 0, none⟩) l ∧ w.heap.size ≤ g ∧ Below w.heap.size w w'
/-- How far All has come. -/
structure Sofar (w wr : World) (f : M.Ky) (ga k n : Nat) : Prop where
  kk : k ≤ 7
  nn : n = (M.allTo f k).length
  blk : ∃ cs : List Value, Blk wr ga cs ∧ cs.length = 56 ∧ cs.take (n * 2) = rc (M.allTo f k)
  bel : Below w.heap.size w wr
theorem Sofar.step {w wr : World} {f : M.Ky} {ga k n : Nat} (hg : M.Good f) (hga : w.heap.size ≤ ga) (h : Sofar w wr f ga k n) (hk : k < 7) (cs : List Value) (hb : Blk wr ga cs) (hl : cs.length = 56) (ht : cs.take (n * 2) = rc (M.allTo f k)) (m : Nat) (hm : m = n + (f k).length) :
    Sofar w (wr.drew.setRow ga (splice cs (n * 2) (rc (M.rows f k))).toArray) f ga (k + 1) m := by
  have h1 := M.allTo_length hg k
  have h2 := hg.four k
  have h3 := h.nn
  have hrl : (rc (M.rows f k)).length = (f k).length * 2 := by rw [rc_length, M.rows_length]
  refine ⟨by omega, ?_, ⟨_, hb.drew.set _, ?_, ?_⟩, below_setRow h.bel.drew hga _⟩
  · rw [M.allTo, List.length_append, M.rows_length]; omega
  · rw [splice_length _ _ _ (by omega), hl]
  · have e : m * 2 = n * 2 + (rc (M.rows f k)).length := by omega
    rw [e, splice, List.append_assoc, List.take_append, List.take_append, List.take_of_length_le (by simp; omega)]
    rw [show (cs.take (n * 2)).length = n * 2 by simp; omega, Nat.add_sub_cancel_left, List.take_of_length_le (Nat.le_refl _), Nat.sub_self, List.take_zero, List.append_nil, ht, ← rc_append]
    rfl

set_option maxHeartbeats 4000000 in
theorem caall_go (w : World) (P : Option Addr) (f : M.Ky) (A : Nat → Option Addr) (cap : Nat → Nat) (hg : M.Good f)
    (hof : ∀ W, Below w.heap.size w W → ∀ k : Nat, k < 7 → Calls Try.prog 24 #[.pointer P, .int .i64 (k : Int)] W fun e w' => e = .returned (.slice (A k) (f k).length (cap k)) ∧ W = w')
    (hcp : ∀ W ga cs, Below w.heap.size w W → Blk W ga cs → w.heap.size ≤ ga → cs.length = 56 → ∀ k : Nat, k < 7 → ∀ n, n ≤ 24 → ∀ ty, (Builtin.copy_ #[47, 47] ty #[.slice (some ⟨ga, n * 2, none⟩) (28 - n) (28 - n), .slice (A k) (f k).length (cap k)]).run Try.prog W = .ok (goInt ((f k).length : Int)) (W.setRow ga (splice cs (n * 2) (rc (M.rows f k))).toArray)) :
    Calls Try.prog 20 #[.pointer P] w (AllGot w (M.all f)) := by
  have mk := run_make28 w
  obtain ⟨ga, hga⟩ : ∃ ga, ga = w.heap.size := ⟨_, rfl⟩
  rw [← hga] at mk
  obtain ⟨w1, hw1⟩ : ∃ w1, w1 = w.alloc (.cells (List.replicate 56 (Value.int .i64 0)).toArray 27) := ⟨_, rfl⟩
  rw [← hw1] at mk
  have s0 : Sofar w w1 f ga 0 0 := ⟨by omega, rfl, ⟨List.replicate 56 (.int .i64 0), by rw [hga, hw1]; exact Blk.new w _, by simp, by simp [M.allTo, rc_nil]⟩, by rw [hw1]; exact (Below.refl _ _).alloc (Nat.le_refl _) _⟩
  have S0 := Lib.hid s0
  have OF := Lib.hid hof
  have CP := Lib.hid hcp
  have GA := Lib.hid (show w.heap.size ≤ ga by omega)
  clear s0 hof hcp hga hw1
  go_enter Try.func20, Try.ntmps20
  go_wp2_with fail
  go_loopw [4, 5, 7] (fun t _ i wr => ∃ k n : Nat, i = .int .i64 (k : Int) ∧ t = .int .i64 (n : Int) ∧ Sofar w wr f ga k n) (fun _ _ i _ => 7 - (intOf i).toNat)
  case atStart => exact ⟨0, 0, rfl, rfl, S0.out⟩
  case round =>
    obtain ⟨k, n, rfl, rfl, hs⟩ := hrel
    have hk := hs.kk
    by_cases hlt : k < 7
    · obtain ⟨cs, hb, hl, ht⟩ := hs.blk
      have h1 := M.allTo_length hg k
      have hn := hs.nn
      have h4 := hg.four k
      have n24 : n ≤ 24 := by omega
      have n28 : n ≤ 28 := by omega
      have i28 : (n : Int) ≤ 28 := by omega
      have ne28 : ¬ 28 = n := by omega
      obtain ⟨z, hz⟩ : ∃ z, (f k).length = z := ⟨_, rfl⟩
      obtain ⟨m, hm⟩ : ∃ m, m = n + z := ⟨_, rfl⟩
      have STEP := Lib.hid (hs.step hg GA.out hlt cs hb hl ht m (by omega))
      have cp := CP.out wr.drew ga cs hs.bel.drew hb.drew GA.out hl k hlt n n24
      rw [hz] at cp
      have hw2 : IntKind.i64.wrap ((n : Int) + (z : Int)) = (m : Int) := by rw [IntKind.wrap_i64]; omega
      have HZ := Lib.hid hz
      have DB := Lib.hid hs.bel.drew
      clear hs hb hl ht h1 hn h4 n24 hz hm hk
      go_wp2_with fail
      refine wp_region_noPanic ?_
      refine wp_region_held_drew (S := fun _ => True) (by kernel_rfl) (trivial) (fun hHeld => ?_)
      refine wpAnyH_take (i := 0) (oi := ({ dst := some 10, op := Op.move (Operand.tmp 4), type := 3, pos := "cache.go:71", after := #[], guard := none } : Oper)) (v := ?_) rfl (by kernel_rfl) (by kernel_rfl) (by kernel_rfl) (fun _ _ _ h => h) (Or.inl ⟨by rfl, ?_⟩) (by assumption) ?_
      rotate_left
      · (intro w hSw; (try dsimp only at hSw); go_simp) <;> with_reducible rfl
      (try simp only [Act.put, List.setIfInBounds_toArray, List.set_cons_zero, List.set_cons_succ])
      refine wpAnyH_take (i := 1) (oi := ({ dst := some 11, op := Op.move (Operand.tmp 3), type := 47, pos := "cache.go:71", after := #[], guard := none } : Oper)) (v := ?_) rfl (by kernel_rfl) (by kernel_rfl) (by kernel_rfl) (fun _ _ _ h => h) (Or.inl ⟨by rfl, ?_⟩) (by assumption) ?_
      rotate_left
      · (intro w hSw; (try dsimp only at hSw); go_simp) <;> with_reducible rfl
      (try simp only [Act.put, List.setIfInBounds_toArray, List.set_cons_zero, List.set_cons_succ])
      refine wpAnyH_take (i := 2) (oi := ({ dst := some 12, op := Op.move (Operand.tmp 4), type := 3, pos := "cache.go:71", after := #[], guard := none } : Oper)) (v := ?_) rfl (by kernel_rfl) (by kernel_rfl) (by kernel_rfl) (fun _ _ _ h => h) (Or.inl ⟨by rfl, ?_⟩) (by assumption) ?_
      rotate_left
      · (intro w hSw; (try dsimp only at hSw); go_simp) <;> with_reducible rfl
      (try simp only [Act.put, List.setIfInBounds_toArray, List.set_cons_zero, List.set_cons_succ])
      refine wpAnyH_take (i := 3) (oi := ({ dst := some 13, op := Op.slice 47 (Operand.tmp 11) (some (Operand.tmp 12)) none none, type := 47, pos := "cache.go:71", after := #[{ on := 1, ground := Ground.data }, { on := 2, ground := Ground.data }], guard := none } : Oper)) (v := ?_) rfl (by kernel_rfl) (by kernel_rfl) (by kernel_rfl) (fun _ _ _ h => h) (Or.inl ⟨by rfl, ?_⟩) (by assumption) ?_
      rotate_left
      · (intro w hSw; (try dsimp only at hSw); go_simp) <;> with_reducible rfl
      (try simp only [Act.put, List.setIfInBounds_toArray, List.set_cons_zero, List.set_cons_succ])
      refine wpAnyH_take (i := 4) (oi := ({ dst := some 14, op := Op.move (Operand.tmp 0), type := 24, pos := "cache.go:71", after := #[], guard := none } : Oper)) (v := ?_) rfl (by kernel_rfl) (by kernel_rfl) (by kernel_rfl) (fun _ _ _ h => h) (Or.inl ⟨by rfl, ?_⟩) (by assumption) ?_
      rotate_left
      · (intro w hSw; (try dsimp only at hSw); go_simp) <;> with_reducible rfl
      (try simp only [Act.put, List.setIfInBounds_toArray, List.set_cons_zero, List.set_cons_succ])
      refine wpAnyH_take (i := 5) (oi := ({ dst := some 15, op := Op.move (Operand.tmp 5), type := 3, pos := "cache.go:71", after := #[], guard := none } : Oper)) (v := ?_) rfl (by kernel_rfl) (by kernel_rfl) (by kernel_rfl) (fun _ _ _ h => h) (Or.inl ⟨by rfl, ?_⟩) (by assumption) ?_
      rotate_left
      · (intro w hSw; (try dsimp only at hSw); go_simp) <;> with_reducible rfl
      (try simp only [Act.put, List.setIfInBounds_toArray, List.set_cons_zero, List.set_cons_succ])
      refine wpAnyH_ready (rs := [6]) (by kernel_rfl) (by simp) ?_
      refine AllReadyH.cons (o := ({ dst := some 16, op := Op.call { callee := Callee.value (Operand.func 24), args := #[Operand.tmp 14, Operand.tmp 15], argTypes := #[24, 3] }, type := 47, pos := "cache.go:71", after := #[{ on := 4, ground := Ground.data }, { on := 5, ground := Ground.data }], guard := none } : Oper)) rfl (fun K hK => ?_) ?_
      · go_simp
        refine (OF.out _ DB.out k hlt).mono ?_
        rintro e y1 ⟨rfl, rfl⟩
        rw [HZ.out]
        go_wp2_with fail
        refine hK.out _ _ ?_ (fun hHeld => ?_)
        · trivial
        clear hK K
        (try simp only [Act.put, List.setIfInBounds_toArray, List.set_cons_zero, List.set_cons_succ])
        refine wpAnyH_ready (rs := [7]) (by kernel_rfl) (by simp) ?_
        refine AllReadyH.cons (o := ({ dst := some 17, op := Op.call { callee := Callee.builtin Builtin.copy, args := #[Operand.tmp 13, Operand.tmp 16], argTypes := #[47, 47] }, type := 3, pos := "cache.go:71", after := #[{ on := 3, ground := Ground.data }, { on := 6, ground := Ground.data }, { on := 6, ground := Ground.chain }], guard := none } : Oper)) rfl (fun K hK => ?_) ?_
        · go_simp
          refine hK.out _ _ ?_ (fun hHeld => ?_)
          · trivial
          clear hK K
          (try simp only [Act.put, List.setIfInBounds_toArray, List.set_cons_zero, List.set_cons_succ])
          refine wpAnyH_take (i := 8) (oi := ({ dst := some 18, op := Op.binOp BinOp.add 3 (Operand.tmp 10) (Operand.tmp 17) 3, type := 3, pos := "cache.go:71", after := #[{ on := 0, ground := Ground.data }, { on := 7, ground := Ground.data }], guard := none } : Oper)) (v := ?_) rfl (by kernel_rfl) (by kernel_rfl) (by kernel_rfl) (fun _ _ _ h => h) (Or.inl ⟨by rfl, ?_⟩) (by assumption) ?_
          rotate_left
          · (intro w hSw; (try dsimp only at hSw); go_simp) <;> with_reducible rfl
          (try simp only [Act.put, List.setIfInBounds_toArray, List.set_cons_zero, List.set_cons_succ])
          refine wpAnyH_take (i := 9) (oi := ({ dst := some 4, op := Op.assign (Operand.tmp 18), type := 3, pos := "cache.go:71", after := #[{ on := 8, ground := Ground.data }, { on := 7, ground := Ground.chain }, { on := 0, ground := Ground.phase }, { on := 1, ground := Ground.phase }, { on := 2, ground := Ground.phase }, { on := 3, ground := Ground.phase }, { on := 4, ground := Ground.phase }, { on := 5, ground := Ground.phase }, { on := 6, ground := Ground.phase }, { on := 7, ground := Ground.phase }, { on := 8, ground := Ground.phase }], guard := none } : Oper)) (v := ?_) rfl (by kernel_rfl) (by kernel_rfl) (by kernel_rfl) (fun _ _ _ h => h) (Or.inl ⟨by rfl, ?_⟩) (by assumption) ?_
          rotate_left
          · (intro w hSw; (try dsimp only at hSw); go_simp) <;> with_reducible rfl
          (try simp only [Act.put, List.setIfInBounds_toArray, List.set_cons_zero, List.set_cons_succ])
          refine wpAnyH_done (by kernel_rfl) ?_ _
          refine NoPanic.normal ?_
          go_wp2_with fail
          go_roundw
          case rel => exact ⟨k + 1, m, by go_num, rfl, STEP.out⟩
          case measure => simp [intOf]; omega
        exact AllReadyH.nil
      exact AllReadyH.nil
    · have e : k = 7 := by omega
      subst e
      obtain ⟨cs, hb, hl, ht⟩ := hs.blk
      have h1 := M.allTo_length hg 7
      have hn := hs.nn
      have n28 : n ≤ 28 := by omega
      have i28 : (n : Int) ≤ 28 := by omega
      have RES := Lib.hid (show AllGot w (M.all f) (.returned (.slice (some ⟨ga, 0, none⟩) n 28)) wr from ⟨ga, n, rfl, hn, n28, hb.runs (by rw [M.all, ← hn]; exact ht), GA.out, hs.bel⟩)
      clear hs hb hl ht h1 hn hk
      go_wp2_with fail
      go_ret
      exact RES.out
theorem caall_any (w : World) (g : Nat) (f : M.Ky) (h : IsC w g f) : Calls Try.prog 20 #[.pointer (some ⟨g, 0, none⟩)] w (AllGot w (M.all f)) := by
  refine caall_go w (some ⟨g, 0, none⟩) f (fun k => some ⟨g, k * 8, none⟩) (fun _ => 4) h.good (fun W hW k hk => caof_in W g f (h.below hW) k hk) (fun W ga cs hW hb hga hl k hk n hn ty => ?_)
  have h4 := h.good.four k
  have hr := (h.below hW).runs k hk
  refine run_copy2 W ty ga (n * 2) cs hb (28 - n) (28 - n) ⟨g, k * 8, none⟩ (f k).length 4 (f k).length (rc (M.rows f k)) (by simp only [Nat.min_def]; split <;> omega) (by rw [rc_length, M.rows_length]) (fun j v hv => ?_) (by rw [rc_length, M.rows_length, hl]; omega) (rc_one _)
  have hpos : 0 < (M.rows f k).length := by
    rcases Nat.eq_zero_or_pos (M.rows f k).length with h0 | h0
    · rw [List.eq_nil_of_length_eq_zero h0] at hv; simp [rc_nil] at hv
    · exact h0
  obtain ⟨bl, o, e, hc⟩ := hr hpos
  injection e with e
  rw [e, Addr.add_lit]
  exact runs_cells hc j v hv
theorem run_copy_none (W : World) (ty : TypeId) (a : Option Addr) (dl dc : Nat) : (Builtin.copy_ #[47, 47] ty #[.slice a dl dc, .slice none 0 0]).run Try.prog W = .ok (goInt 0) W := by
  obtain ⟨i, hi, hz, hs, hb⟩ := info36
  cases a <;> simp [Builtin.copy_, run_underlying Try.underlying47, Builtin.lenOf, Builtin.firstCells, sizeOf, typeInfo, hi, storeCells]
theorem caall_nil (w : World) : Calls Try.prog 20 #[.pointer none] w (AllGot w []) := by
  have := caall_go w none M.empty (fun _ => none) (fun _ => 0) M.Good.empty (fun W hW k hk => caof_out W none k (.inl rfl)) (fun W ga cs hW hb hga hl k hk n hn ty => by
    rw [show M.rows M.empty k = [] from rfl, rc_nil, splice_nil, setRow_self W ga cs.toArray _ _ hb]
    exact run_copy_none W ty _ _ _)
  rw [M.all_empty] at this
  exact this
end Go.Proofs.Yteiiiapjloincaa
