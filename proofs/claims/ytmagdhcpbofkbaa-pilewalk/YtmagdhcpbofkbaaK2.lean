/-
  slices.Replace of runs by one run.
-/
import Derived.Test.YtmagdhcpbofkbaaK1b
namespace Go.Proofs.Ytmagdhcpbofkbaa
open Go.ChangeShapes Go.WideShapes Go.ChangeAt Go.RowKit Go.Deep
set_option linter.unusedVariables false
set_option maxRecDepth 20000

theorem insert_any (w : World) (B n c vb i : Nat) (A : Option Addr) (l : List M.R) (p q : Int) (hm : MineR w B A l c) (hn : n = l.length) (hn4 : n ≤ 4000000000) (hBw : B ≤ w.heap.size) (hi : i ≤ n) (hv : Blk w vb [.int .i64 p, .int .i64 q]) (hne : ∀ b, A = some b → vb ≠ b.block) :
    Calls Try.prog 95 #[.slice A n c, .int .i64 (i : Int), .slice (some ⟨vb, 0, none⟩) 1 1] w (Got w B (n + 1) (l.take i ++ (⟨p, q⟩ :: l.drop i))) := by
  rcases Nat.lt_or_ge i n with h | h
  · rcases hm with ⟨rfl, rfl, rfl⟩ | ⟨g, cs, rfl, hB, hb, h1, h2, h3, h4⟩
    · simp at hn; omega
    · subst hn
      have hne' : vb ≠ g := hne _ rfl
      rcases Nat.lt_or_ge l.length c with hr | hr
      · exact insert_room w B l.length c vb g i cs l p q hb h3 rfl h2 h4 h hr hB hv hne'
      · obtain rfl : c = l.length := by omega
        exact insert_grow w B l.length vb g i cs l p q hb h3 rfl hn4 h4 h hB hBw hv hne'
  · obtain rfl : i = n := by omega
    rw [show l.take i = l by rw [hn]; exact List.take_length, show l.drop i = [] by rw [hn]; exact List.drop_length]
    exact insert_end w B i c vb A l p q hm hn hn4 hBw hv hne

/-- Runs from i up to j are gone, and a run stands there. -/
theorem rep_list {cs : List Value} {l : List M.R} {n i j : Nat} {p q : Int} (hcs : n * 2 ≤ cs.length) (hn : n = l.length) (hl : cs.take (n * 2) = rc l) (hi : i < j) (hj : j ≤ n) :
    (splice (splice cs (i * 2) [.int .i64 p, .int .i64 q]) ((i + 1) * 2) (rc (l.drop j))).take ((i + 1 + (n - j)) * 2) = rc (l.take i ++ (⟨p, q⟩ :: l.drop j)) := by
  have hd : (rc (l.drop j)).length = (n - j) * 2 := by rw [rc_length, List.length_drop, hn]
  have e : i * 2 + [Value.int .i64 p, .int .i64 q].length = (i + 1) * 2 := by simp; omega
  have e0 : cs.take (i * 2) = rc (l.take i) := by rw [rc_take, ← hl, List.take_take, Nat.min_eq_left (by omega)]
  have e1 : (splice cs (i * 2) [.int .i64 p, .int .i64 q]).take ((i + 1) * 2) = rc (l.take i) ++ [.int .i64 p, .int .i64 q] := by
    rw [← e, splice_take2 _ _ _ (by omega), e0]
  have hsl := splice_length cs (i * 2) [.int .i64 p, .int .i64 q] (by rw [e]; omega)
  have h3 : (i + 1 + (n - j)) * 2 = (i + 1) * 2 + (rc (l.drop j)).length := by omega
  rw [h3, splice_take2 _ _ _ (by rw [hsl]; omega), e1, rc_append, rc_cons]
  simp

set_option maxHeartbeats 1000000 in
theorem replace_end (w : World) (B n c vb g i j : Nat) (cs : List Value) (l : List M.R) (p q : Int) (hb : Blk w g cs) (hcs : cs.length = c * 2) (hn : n = l.length) (hc : c ≤ maxLen) (hnc : n ≤ c) (hl : cs.take (n * 2) = rc l) (hij : i < j) (hB : B ≤ g) (hv : Blk w vb [.int .i64 p, .int .i64 q]) (hne : vb ≠ g) (hj : j = n) :
    Calls Try.prog 91 #[.slice (some ⟨g, 0, none⟩) n c, .int .i64 (i : Int), .int .i64 (n : Int), .slice (some ⟨vb, 0, none⟩) 1 1] w (Got w B (i + 1) (l.take i ++ [⟨p, q⟩])) := by
  unfold maxLen at hc
  subst hj
  have hin : i ≤ j := by omega
  have hic : i ≤ c := by omega
  have hz1 : ¬ ((i : Int) = (j : Int)) := by omega
  obtain ⟨X, hX⟩ : ∃ X, X = splice cs (i * 2) [.int .i64 p, .int .i64 q] := ⟨_, rfl⟩
  have hfit : i * 2 + [Value.int .i64 p, .int .i64 q].length ≤ cs.length := by simp; omega
  have hXl : X.length = c * 2 := by rw [hX, splice_length _ _ _ hfit, hcs]
  have b1 : Blk (w.setRow g X.toArray) g X := hb.set X
  have hap : ∀ ty, (Builtin.append_ #[29, 29] ty #[.slice (some ⟨g, 0, none⟩) i c, .slice (some ⟨vb, 0, none⟩) 1 1]).run Try.prog w = .ok (.slice (some ⟨g, 0, none⟩) (i + 1) c) (w.setRow g X.toArray) := fun ty => by
    rw [hX]
    exact run_room2 w ty g cs hb i c ⟨vb, 0, none⟩ 1 1 [.int .i64 p, .int .i64 q] rfl (by omega) (fun x v hx => by rw [Addr.add_lit, Nat.zero_add, hv.cell]; exact hx) hfit (by intro u hu; simp at hu; rcases hu with rfl | rfl <;> rfl)
  have hXt : X.take ((i + 1) * 2) = rc (l.take i ++ [⟨p, q⟩]) := by
    have e0 : cs.take (i * 2) = rc (l.take i) := by rw [rc_take, ← hl, List.take_take, Nat.min_eq_left (by omega)]
    have e : (i + 1) * 2 = i * 2 + [Value.int .i64 p, .int .i64 q].length := by simp; omega
    rw [hX, e, splice_take2 _ _ _ (by omega), e0, rc_append]
    rfl
  have hll : (l.take i ++ [(⟨p, q⟩ : M.R)]).length = i + 1 := by rw [List.length_append, List.length_take, List.length_cons, List.length_nil]; omega
  go_enter Try.func91, Try.ntmps91
  by_cases h1 : i + 1 < j
  · have hcl : ∀ ty mc, (Builtin.clear_ #[29] ty #[.slice (some ⟨g, (i + 1) * 2, none⟩) (j - (i + 1)) mc]).run Try.prog (w.setRow g X.toArray) = .ok (.tuple #[]) ((w.setRow g X.toArray).setRow g (splice X ((i + 1) * 2) (List.replicate ((j - (i + 1)) * 2) (.int .i64 0))).toArray) := fun ty mc =>
      run_clear2 _ ty g ((i + 1) * 2) X b1 (j - (i + 1)) mc (by omega) (by omega)
    have B2 := Lib.hid (show Runs ((w.setRow g X.toArray).setRow g (splice X ((i + 1) * 2) (List.replicate ((j - (i + 1)) * 2) (.int .i64 0))).toArray) (some ⟨g, 0, none⟩) (l.take i ++ [⟨p, q⟩]) ∧ Below B w ((w.setRow g X.toArray).setRow g (splice X ((i + 1) * 2) (List.replicate ((j - (i + 1)) * 2) (.int .i64 0))).toArray) from
      ⟨(b1.set _).runs (by rw [hll, splice_take _ _ _ _ (by simp; omega) (Nat.le_refl _), hXt]), below_setRow (below_setRow (Below.refl B w) hB _) hB _⟩)
    have hci : ¬ c = i + 1 := by omega
    have hij2 : (i : Int) + 1 ≤ (j : Int) := by omega
    clear hn hX hXl hXt hfit b1 hb hcs hl hv hne hll
    go_wp2_with (at_builtin; refine Lib.wpList_append_run _ rfl _ _ 29 29 rfl (.slice (some ⟨g, 0, none⟩) i c) (.slice (some ⟨vb, 0, none⟩) 1 1) rfl rfl _ _ (hap _) ?_)
    go_ret
    exact ⟨_, _, rfl, B2.out.1, B2.out.2, fresh_at hB⟩
  · have B2 := Lib.hid (show Runs (w.setRow g X.toArray) (some ⟨g, 0, none⟩) (l.take i ++ [⟨p, q⟩]) ∧ Below B w (w.setRow g X.toArray) from ⟨b1.runs (by rw [hll, hXt]), below_setRow (Below.refl B w) hB _⟩)
    have hlt : ¬ ((i : Int) + 1 < (j : Int)) := by omega
    clear hn hX hXl hXt hfit b1 hb hcs hl hv hne hll
    go_wp2_with (at_builtin; refine Lib.wpList_append_run _ rfl _ _ 29 29 rfl (.slice (some ⟨g, 0, none⟩) i c) (.slice (some ⟨vb, 0, none⟩) 1 1) rfl rfl _ _ (hap _) ?_)
    go_ret
    exact ⟨_, _, rfl, B2.out.1, B2.out.2, fresh_at hB⟩

set_option maxHeartbeats 2000000 in
theorem replace_mid (w : World) (B n c vb g i j : Nat) (cs : List Value) (l : List M.R) (p q : Int) (hb : Blk w g cs) (hcs : cs.length = c * 2) (hn : n = l.length) (hc : c ≤ maxLen) (hnc : n ≤ c) (hl : cs.take (n * 2) = rc l) (hij : i < j) (hB : B ≤ g) (hv : Blk w vb [.int .i64 p, .int .i64 q]) (hne : vb ≠ g) (hj : j < n) (t : Nat) (ht : t = i + 1 + (n - j)) :
    Calls Try.prog 91 #[.slice (some ⟨g, 0, none⟩) n c, .int .i64 (i : Int), .int .i64 (j : Int), .slice (some ⟨vb, 0, none⟩) 1 1] w (Got w B t (l.take i ++ (⟨p, q⟩ :: l.drop j))) := by
  unfold maxLen at hc
  obtain ⟨m, hm⟩ : ∃ m, n - j = m := ⟨_, rfl⟩
  have hm2 := hm
  have hin : i ≤ n := by omega
  have hic : i ≤ c := by omega
  have hjn : j ≤ n := by omega
  have hij' : i ≤ j := by omega
  have hjc : j ≤ c := by omega
  have htc : t ≤ c := by omega
  have htn : t ≤ n := by omega
  have hit : i ≤ t := by omega
  have hci : ¬ c = i := by omega
  have hci1 : ¬ c = i + 1 := by omega
  have hcj : ¬ c = j := by omega
  have hz1 : ¬ ((i : Int) = (j : Int)) := by omega
  have hz2 : ¬ ((j : Int) = (n : Int)) := by omega
  have ht1 : t - (i + 1) = m := by omega
  have hle : (i : Int) + 1 ≤ (j : Int) := by omega
  have hwr : IntKind.i64.wrap ((i : Int) + 1) = (i : Int) + 1 := by rw [IntKind.wrap_i64]; omega
  have hw2 : IntKind.i64.wrap ((i : Int) + 1 + (m : Int)) = (t : Int) := by rw [IntKind.wrap_i64]; omega
  have hw0 : (0 : Int) ≤ (i : Int) + 1 := by omega
  have hw1' : (i : Int) + 1 ≤ (t : Int) := by omega
  have hw3 : ((i : Int) + 1).toNat = i + 1 := by omega
  have hdl : (rc (l.drop j)).length = m * 2 := by rw [rc_length, List.length_drop, ← hn, hm]
  obtain ⟨X, hX⟩ : ∃ X, X = splice cs (i * 2) [.int .i64 p, .int .i64 q] := ⟨_, rfl⟩
  have hfit : i * 2 + [Value.int .i64 p, .int .i64 q].length ≤ cs.length := by simp; omega
  have hXl : X.length = c * 2 := by rw [hX, splice_length _ _ _ hfit, hcs]
  obtain ⟨Y, hY⟩ : ∃ Y, Y = splice X ((i + 1) * 2) (rc (l.drop j)) := ⟨_, rfl⟩
  have hYl : Y.length = c * 2 := by rw [hY, splice_length _ _ _ (by omega), hXl]
  have b1 : Blk (w.drew.setRow g X.toArray) g X := hb.drew.set X
  have b2 : Blk ((w.drew.setRow g X.toArray).drew.setRow g Y.toArray) g Y := b1.drew.set Y
  have hYt : Y.take (t * 2) = rc (l.take i ++ (⟨p, q⟩ :: l.drop j)) := by
    rw [hY, hX, ht]
    exact rep_list (by omega) hn hl hij (by omega)
  have hll : (l.take i ++ (⟨p, q⟩ :: l.drop j)).length = t := by rw [List.length_append, List.length_take, List.length_cons, List.length_drop]; omega
  have cp1 : ∀ ty dc, (Builtin.copy_ #[29, 29] ty #[.slice (some ⟨g, i * 2, none⟩) (t - i) dc, .slice (some ⟨vb, 0, none⟩) 1 1]).run Try.prog w.drew = .ok (goInt 1) (w.drew.setRow g X.toArray) := fun ty dc => by
    rw [hX]
    exact run_copy2 _ ty g (i * 2) cs hb.drew (t - i) dc ⟨vb, 0, none⟩ 1 1 1 [.int .i64 p, .int .i64 q] (by simp only [Nat.min_def]; split <;> omega) rfl (fun x v hx => by rw [Addr.add_lit, Nat.zero_add, hv.drew.cell]; exact hx) hfit (by intro u hu; simp at hu; rcases hu with rfl | rfl <;> rfl)
  have cp2 : ∀ ty dc sc, (Builtin.copy_ #[29, 29] ty #[.slice (some ⟨g, (i + 1) * 2, none⟩) m dc, .slice (some ⟨g, j * 2, none⟩) m sc]).run Try.prog (w.drew.setRow g X.toArray).drew = .ok (goInt (m : Int)) ((w.drew.setRow g X.toArray).drew.setRow g Y.toArray) := fun ty dc sc => by
    rw [hY]
    exact run_copy2 _ ty g ((i + 1) * 2) X b1.drew m dc ⟨g, j * 2, none⟩ m sc m (rc (l.drop j)) (by simp only [Nat.min_def]; split <;> omega) hdl (fun x v hx => by
      rw [Addr.add_lit, b1.drew.cell]
      rw [rc_drop, List.getElem?_drop, ← hl, List.getElem?_take] at hx
      split at hx
      · rw [← hx, hX, splice, List.append_assoc, List.getElem?_append_right (by simp; omega), List.getElem?_append_right (by simp; omega), List.getElem?_drop]
        congr 1
        simp
        omega
      · cases hx) (by omega) (rc_one _)
  have ht2 := ht
  clear ht
  by_cases h1 : j = i + 1
  · skip
    have hcl : ∀ ty A mc, (Builtin.clear_ #[29] ty #[.slice A 0 mc]).run Try.prog ((w.drew.setRow g X.toArray).drew.setRow g Y.toArray) = .ok (.tuple #[]) ((w.drew.setRow g X.toArray).drew.setRow g Y.toArray) := fun ty A mc => run_clear0 _ ty A mc
    have B2 := Lib.hid (show Runs ((w.drew.setRow g X.toArray).drew.setRow g Y.toArray) (some ⟨g, 0, none⟩) (l.take i ++ (⟨p, q⟩ :: l.drop j)) ∧ Below B w ((w.drew.setRow g X.toArray).drew.setRow g Y.toArray) from ⟨b2.runs (by rw [hll, hYt]), below_setRow (below_setRow (Below.refl B w).drew hB _).drew hB _⟩)
    have hnt : n - t = 0 := by omega
    clear h1 ht2 hn hX hY hXl hYl hYt hfit b1 b2 hb hcs hl hv hne hll hdl hm2
    go_enter Try.func91, Try.ntmps91
    go_wp2_with fail
    refine wp_region_noPanic ?_
    refine wp_region_held_drew (S := fun _ => True) (by kernel_rfl) (trivial) (fun hHeld => ?_)
    refine wpAnyH_take (i := 0) (oi := ({ dst := some 45, op := Op.move (Operand.tmp 0), type := 29, pos := "slices.go:276", after := #[], guard := none } : Oper)) (v := ?_) rfl (by kernel_rfl) (by kernel_rfl) (by kernel_rfl) (fun _ _ _ h => h) (Or.inl ⟨by rfl, ?_⟩) (by assumption) ?_
    rotate_left
    · (intro w hSw; (try dsimp only at hSw); go_simp) <;> with_reducible rfl
    (try simp only [Act.put, List.setIfInBounds_toArray, List.set_cons_zero, List.set_cons_succ])
    refine wpAnyH_take (i := 1) (oi := ({ dst := some 46, op := Op.move (Operand.tmp 1), type := 3, pos := "slices.go:276", after := #[], guard := none } : Oper)) (v := ?_) rfl (by kernel_rfl) (by kernel_rfl) (by kernel_rfl) (fun _ _ _ h => h) (Or.inl ⟨by rfl, ?_⟩) (by assumption) ?_
    rotate_left
    · (intro w hSw; (try dsimp only at hSw); go_simp) <;> with_reducible rfl
    (try simp only [Act.put, List.setIfInBounds_toArray, List.set_cons_zero, List.set_cons_succ])
    refine wpAnyH_take (i := 2) (oi := ({ dst := some 47, op := Op.slice 29 (Operand.tmp 45) none (some (Operand.tmp 46)) none, type := 29, pos := "slices.go:276", after := #[{ on := 0, ground := Ground.data }, { on := 1, ground := Ground.data }], guard := none } : Oper)) (v := ?_) rfl (by kernel_rfl) (by kernel_rfl) (by kernel_rfl) (fun _ _ _ h => h) (Or.inl ⟨by rfl, ?_⟩) (by assumption) ?_
    rotate_left
    · (intro w hSw; (try dsimp only at hSw); go_simp) <;> with_reducible rfl
    (try simp only [Act.put, List.setIfInBounds_toArray, List.set_cons_zero, List.set_cons_succ])
    refine wpAnyH_take (i := 3) (oi := ({ dst := some 48, op := Op.call { callee := Callee.builtin Builtin.len, args := #[Operand.tmp 47], argTypes := #[29] }, type := 3, pos := "slices.go:276", after := #[{ on := 2, ground := Ground.data }], guard := none } : Oper)) (v := ?_) rfl (by kernel_rfl) (by kernel_rfl) (by kernel_rfl) (fun _ _ _ h => h) (Or.inl ⟨by rfl, ?_⟩) (by assumption) ?_
    rotate_left
    · (intro w hSw; (try dsimp only at hSw); go_simp) <;> with_reducible rfl
    (try simp only [Act.put, List.setIfInBounds_toArray, List.set_cons_zero, List.set_cons_succ])
    refine wpAnyH_take (i := 4) (oi := ({ dst := some 49, op := Op.move (Operand.tmp 3), type := 29, pos := "slices.go:276", after := #[], guard := none } : Oper)) (v := ?_) rfl (by kernel_rfl) (by kernel_rfl) (by kernel_rfl) (fun _ _ _ h => h) (Or.inl ⟨by rfl, ?_⟩) (by assumption) ?_
    rotate_left
    · (intro w hSw; (try dsimp only at hSw); go_simp) <;> with_reducible rfl
    (try simp only [Act.put, List.setIfInBounds_toArray, List.set_cons_zero, List.set_cons_succ])
    refine wpAnyH_take (i := 5) (oi := ({ dst := some 50, op := Op.call { callee := Callee.builtin Builtin.len, args := #[Operand.tmp 49], argTypes := #[29] }, type := 3, pos := "slices.go:276", after := #[{ on := 4, ground := Ground.data }], guard := none } : Oper)) (v := ?_) rfl (by kernel_rfl) (by kernel_rfl) (by kernel_rfl) (fun _ _ _ h => h) (Or.inl ⟨by rfl, ?_⟩) (by assumption) ?_
    rotate_left
    · (intro w hSw; (try dsimp only at hSw); go_simp) <;> with_reducible rfl
    (try simp only [Act.put, List.setIfInBounds_toArray, List.set_cons_zero, List.set_cons_succ])
    refine wpAnyH_take (i := 6) (oi := ({ dst := some 51, op := Op.binOp BinOp.add 3 (Operand.tmp 48) (Operand.tmp 50) 3, type := 3, pos := "slices.go:276", after := #[{ on := 3, ground := Ground.data }, { on := 5, ground := Ground.data }], guard := none } : Oper)) (v := ?_) rfl (by kernel_rfl) (by kernel_rfl) (by kernel_rfl) (fun _ _ _ h => h) (Or.inl ⟨by rfl, ?_⟩) (by assumption) ?_
    rotate_left
    · (intro w hSw; (try dsimp only at hSw); go_simp) <;> with_reducible rfl
    (try simp only [Act.put, List.setIfInBounds_toArray, List.set_cons_zero, List.set_cons_succ])
    refine wpAnyH_take (i := 7) (oi := ({ dst := some 52, op := Op.move (Operand.tmp 0), type := 29, pos := "slices.go:276", after := #[], guard := none } : Oper)) (v := ?_) rfl (by kernel_rfl) (by kernel_rfl) (by kernel_rfl) (fun _ _ _ h => h) (Or.inl ⟨by rfl, ?_⟩) (by assumption) ?_
    rotate_left
    · (intro w hSw; (try dsimp only at hSw); go_simp) <;> with_reducible rfl
    (try simp only [Act.put, List.setIfInBounds_toArray, List.set_cons_zero, List.set_cons_succ])
    refine wpAnyH_take (i := 8) (oi := ({ dst := some 53, op := Op.move (Operand.tmp 2), type := 3, pos := "slices.go:276", after := #[], guard := none } : Oper)) (v := ?_) rfl (by kernel_rfl) (by kernel_rfl) (by kernel_rfl) (fun _ _ _ h => h) (Or.inl ⟨by rfl, ?_⟩) (by assumption) ?_
    rotate_left
    · (intro w hSw; (try dsimp only at hSw); go_simp) <;> with_reducible rfl
    (try simp only [Act.put, List.setIfInBounds_toArray, List.set_cons_zero, List.set_cons_succ])
    refine wpAnyH_take (i := 9) (oi := ({ dst := some 54, op := Op.slice 29 (Operand.tmp 52) (some (Operand.tmp 53)) none none, type := 29, pos := "slices.go:276", after := #[{ on := 7, ground := Ground.data }, { on := 8, ground := Ground.data }], guard := none } : Oper)) (v := ?_) rfl (by kernel_rfl) (by kernel_rfl) (by kernel_rfl) (fun _ _ _ h => h) (Or.inl ⟨by rfl, ?_⟩) (by assumption) ?_
    rotate_left
    · (intro w hSw; (try dsimp only at hSw); go_simp) <;> with_reducible rfl
    (try simp only [Act.put, List.setIfInBounds_toArray, List.set_cons_zero, List.set_cons_succ])
    refine wpAnyH_take (i := 10) (oi := ({ dst := some 55, op := Op.call { callee := Callee.builtin Builtin.len, args := #[Operand.tmp 54], argTypes := #[29] }, type := 3, pos := "slices.go:276", after := #[{ on := 9, ground := Ground.data }], guard := none } : Oper)) (v := ?_) rfl (by kernel_rfl) (by kernel_rfl) (by kernel_rfl) (fun _ _ _ h => h) (Or.inl ⟨by rfl, ?_⟩) (by assumption) ?_
    rotate_left
    · (intro w hSw; (try dsimp only at hSw); go_simp) <;> with_reducible rfl
    (try simp only [Act.put, List.setIfInBounds_toArray, List.set_cons_zero, List.set_cons_succ])
    refine wpAnyH_take (i := 11) (oi := ({ dst := some 56, op := Op.binOp BinOp.add 3 (Operand.tmp 51) (Operand.tmp 55) 3, type := 3, pos := "slices.go:276", after := #[{ on := 6, ground := Ground.data }, { on := 10, ground := Ground.data }], guard := none } : Oper)) (v := ?_) rfl (by kernel_rfl) (by kernel_rfl) (by kernel_rfl) (fun _ _ _ h => h) (Or.inl ⟨by rfl, ?_⟩) (by assumption) ?_
    rotate_left
    · (intro w hSw; (try dsimp only at hSw); go_simp) <;> with_reducible rfl
    (try simp only [Act.put, List.setIfInBounds_toArray, List.set_cons_zero, List.set_cons_succ])
    refine wpAnyH_take (i := 12) (oi := ({ dst := some 10, op := Op.assign (Operand.tmp 56), type := 3, pos := "slices.go:276", after := #[{ on := 11, ground := Ground.data }, { on := 0, ground := Ground.phase }, { on := 1, ground := Ground.phase }, { on := 2, ground := Ground.phase }, { on := 3, ground := Ground.phase }, { on := 4, ground := Ground.phase }, { on := 5, ground := Ground.phase }, { on := 6, ground := Ground.phase }, { on := 7, ground := Ground.phase }, { on := 8, ground := Ground.phase }, { on := 9, ground := Ground.phase }, { on := 10, ground := Ground.phase }, { on := 11, ground := Ground.phase }], guard := none } : Oper)) (v := ?_) rfl (by kernel_rfl) (by kernel_rfl) (by kernel_rfl) (fun _ _ _ h => h) (Or.inl ⟨by rfl, ?_⟩) (by assumption) ?_
    rotate_left
    · (intro w hSw; (try dsimp only at hSw); go_simp) <;> with_reducible rfl
    (try simp only [Act.put, List.setIfInBounds_toArray, List.set_cons_zero, List.set_cons_succ])
    refine wpAnyH_done (by kernel_rfl) ?_ _
    refine NoPanic.normal ?_
    go_wp2_with (at_builtin; refine Lib.wpList_copy_run _ rfl _ _ 29 29 rfl _ _ rfl rfl (cp1 _ _) ?_)
    refine wp_region_noPanic ?_
    refine wp_region_held_drew (S := fun _ => True) (by kernel_rfl) (trivial) (fun hHeld => ?_)
    refine wpAnyH_take (i := 0) (oi := ({ dst := some 98, op := Op.move (Operand.tmp 12), type := 29, pos := "slices.go:290", after := #[], guard := none } : Oper)) (v := ?_) rfl (by kernel_rfl) (by kernel_rfl) (by kernel_rfl) (fun _ _ _ h => h) (Or.inl ⟨by rfl, ?_⟩) (by assumption) ?_
    rotate_left
    · (intro w hSw; (try dsimp only at hSw); go_simp) <;> with_reducible rfl
    (try simp only [Act.put, List.setIfInBounds_toArray, List.set_cons_zero, List.set_cons_succ])
    refine wpAnyH_take (i := 1) (oi := ({ dst := some 99, op := Op.move (Operand.tmp 1), type := 3, pos := "slices.go:290", after := #[], guard := none } : Oper)) (v := ?_) rfl (by kernel_rfl) (by kernel_rfl) (by kernel_rfl) (fun _ _ _ h => h) (Or.inl ⟨by rfl, ?_⟩) (by assumption) ?_
    rotate_left
    · (intro w hSw; (try dsimp only at hSw); go_simp) <;> with_reducible rfl
    (try simp only [Act.put, List.setIfInBounds_toArray, List.set_cons_zero, List.set_cons_succ])
    refine wpAnyH_take (i := 2) (oi := ({ dst := some 100, op := Op.move (Operand.tmp 3), type := 29, pos := "slices.go:290", after := #[], guard := none } : Oper)) (v := ?_) rfl (by kernel_rfl) (by kernel_rfl) (by kernel_rfl) (fun _ _ _ h => h) (Or.inl ⟨by rfl, ?_⟩) (by assumption) ?_
    rotate_left
    · (intro w hSw; (try dsimp only at hSw); go_simp) <;> with_reducible rfl
    (try simp only [Act.put, List.setIfInBounds_toArray, List.set_cons_zero, List.set_cons_succ])
    refine wpAnyH_take (i := 3) (oi := ({ dst := some 101, op := Op.call { callee := Callee.builtin Builtin.len, args := #[Operand.tmp 100], argTypes := #[29] }, type := 3, pos := "slices.go:290", after := #[{ on := 2, ground := Ground.data }], guard := none } : Oper)) (v := ?_) rfl (by kernel_rfl) (by kernel_rfl) (by kernel_rfl) (fun _ _ _ h => h) (Or.inl ⟨by rfl, ?_⟩) (by assumption) ?_
    rotate_left
    · (intro w hSw; (try dsimp only at hSw); go_simp) <;> with_reducible rfl
    (try simp only [Act.put, List.setIfInBounds_toArray, List.set_cons_zero, List.set_cons_succ])
    refine wpAnyH_take (i := 4) (oi := ({ dst := some 102, op := Op.binOp BinOp.add 3 (Operand.tmp 99) (Operand.tmp 101) 3, type := 3, pos := "slices.go:290", after := #[{ on := 1, ground := Ground.data }, { on := 3, ground := Ground.data }], guard := none } : Oper)) (v := ?_) rfl (by kernel_rfl) (by kernel_rfl) (by kernel_rfl) (fun _ _ _ h => h) (Or.inl ⟨by rfl, ?_⟩) (by assumption) ?_
    rotate_left
    · (intro w hSw; (try dsimp only at hSw); go_simp) <;> with_reducible rfl
    (try simp only [Act.put, List.setIfInBounds_toArray, List.set_cons_zero, List.set_cons_succ])
    refine wpAnyH_take (i := 5) (oi := ({ dst := some 103, op := Op.slice 29 (Operand.tmp 98) (some (Operand.tmp 102)) none none, type := 29, pos := "slices.go:290", after := #[{ on := 0, ground := Ground.data }, { on := 4, ground := Ground.data }], guard := none } : Oper)) (v := ?_) rfl (by kernel_rfl) (by kernel_rfl) (by kernel_rfl) (fun _ _ _ h => h) (Or.inl ⟨by rfl, ?_⟩) (by assumption) ?_
    rotate_left
    · (intro w hSw; (try dsimp only at hSw); go_simp) <;> with_reducible rfl
    (try simp only [Act.put, List.setIfInBounds_toArray, List.set_cons_zero, List.set_cons_succ])
    refine wpAnyH_take (i := 6) (oi := ({ dst := some 104, op := Op.move (Operand.tmp 0), type := 29, pos := "slices.go:290", after := #[], guard := none } : Oper)) (v := ?_) rfl (by kernel_rfl) (by kernel_rfl) (by kernel_rfl) (fun _ _ _ h => h) (Or.inl ⟨by rfl, ?_⟩) (by assumption) ?_
    rotate_left
    · (intro w hSw; (try dsimp only at hSw); go_simp) <;> with_reducible rfl
    (try simp only [Act.put, List.setIfInBounds_toArray, List.set_cons_zero, List.set_cons_succ])
    refine wpAnyH_take (i := 7) (oi := ({ dst := some 105, op := Op.move (Operand.tmp 2), type := 3, pos := "slices.go:290", after := #[], guard := none } : Oper)) (v := ?_) rfl (by kernel_rfl) (by kernel_rfl) (by kernel_rfl) (fun _ _ _ h => h) (Or.inl ⟨by rfl, ?_⟩) (by assumption) ?_
    rotate_left
    · (intro w hSw; (try dsimp only at hSw); go_simp) <;> with_reducible rfl
    (try simp only [Act.put, List.setIfInBounds_toArray, List.set_cons_zero, List.set_cons_succ])
    refine wpAnyH_take (i := 8) (oi := ({ dst := some 106, op := Op.slice 29 (Operand.tmp 104) (some (Operand.tmp 105)) none none, type := 29, pos := "slices.go:290", after := #[{ on := 6, ground := Ground.data }, { on := 7, ground := Ground.data }], guard := none } : Oper)) (v := ?_) rfl (by kernel_rfl) (by kernel_rfl) (by kernel_rfl) (fun _ _ _ h => h) (Or.inl ⟨by rfl, ?_⟩) (by assumption) ?_
    rotate_left
    · (intro w hSw; (try dsimp only at hSw); go_simp) <;> with_reducible rfl
    (try simp only [Act.put, List.setIfInBounds_toArray, List.set_cons_zero, List.set_cons_succ])
    refine wpAnyH_ready (rs := [9]) (by kernel_rfl) (by simp) ?_
    refine AllReadyH.cons (o := ({ dst := some 107, op := Op.call { callee := Callee.builtin Builtin.copy, args := #[Operand.tmp 103, Operand.tmp 106], argTypes := #[29, 29] }, type := 3, pos := "slices.go:290", after := #[{ on := 5, ground := Ground.data }, { on := 8, ground := Ground.data }], guard := none } : Oper)) rfl (fun K hK => ?_) ?_
    · skip
      rw [if_pos (by rfl)]
      refine Lib.wp_copy_run _ (.tmp 103) (.tmp 106) 29 29 rfl (.slice (some ⟨g, (i + 1) * 2, none⟩) m (c - (i + 1))) (.slice (some ⟨g, j * 2, none⟩) m (c - j)) (by simp [Act.eval]) (by simp [Act.eval]) (cp2 _ _ _) ?_
      refine hK.out _ _ ?_ (fun hHeld => ?_)
      · trivial
      clear hK K
      (try simp only [Act.put, List.setIfInBounds_toArray, List.set_cons_zero, List.set_cons_succ])
      refine wpAnyH_done (by kernel_rfl) ?_ _
      refine NoPanic.normal ?_
      go_wp2_with fail
      all_goals
        go_ret
        exact ⟨_, _, rfl, B2.out.1, B2.out.2, fresh_at hB⟩
    exact AllReadyH.nil
  · skip
    obtain ⟨d, hd⟩ : ∃ d, d = n - t := ⟨_, rfl⟩
    have hcl : ∀ ty mc, (Builtin.clear_ #[29] ty #[.slice (some ⟨g, t * 2, none⟩) d mc]).run Try.prog ((w.drew.setRow g X.toArray).drew.setRow g Y.toArray) = .ok (.tuple #[]) (((w.drew.setRow g X.toArray).drew.setRow g Y.toArray).setRow g (splice Y (t * 2) (List.replicate (d * 2) (.int .i64 0))).toArray) := fun ty mc =>
      run_clear2 _ ty g (t * 2) Y b2 d mc (by omega) (by omega)
    have B2 := Lib.hid (show Runs (((w.drew.setRow g X.toArray).drew.setRow g Y.toArray).setRow g (splice Y (t * 2) (List.replicate (d * 2) (.int .i64 0))).toArray) (some ⟨g, 0, none⟩) (l.take i ++ (⟨p, q⟩ :: l.drop j)) ∧ Below B w (((w.drew.setRow g X.toArray).drew.setRow g Y.toArray).setRow g (splice Y (t * 2) (List.replicate (d * 2) (.int .i64 0))).toArray) from
      ⟨(b2.set _).runs (by rw [hll, splice_take _ _ _ _ (by simp; omega) (Nat.le_refl _), hYt]), below_setRow (below_setRow (below_setRow (Below.refl B w).drew hB _).drew hB _) hB _⟩)
    have hnt : n - t = d := hd.symm
    have hct : ¬ c = t := by omega
    clear hd
    clear h1 ht2 hn hX hY hXl hYl hYt hfit b1 b2 hb hcs hl hv hne hll hdl hm2
    go_enter Try.func91, Try.ntmps91
    go_wp2_with fail
    refine wp_region_noPanic ?_
    refine wp_region_held_drew (S := fun _ => True) (by kernel_rfl) (trivial) (fun hHeld => ?_)
    refine wpAnyH_take (i := 0) (oi := ({ dst := some 45, op := Op.move (Operand.tmp 0), type := 29, pos := "slices.go:276", after := #[], guard := none } : Oper)) (v := ?_) rfl (by kernel_rfl) (by kernel_rfl) (by kernel_rfl) (fun _ _ _ h => h) (Or.inl ⟨by rfl, ?_⟩) (by assumption) ?_
    rotate_left
    · (intro w hSw; (try dsimp only at hSw); go_simp) <;> with_reducible rfl
    (try simp only [Act.put, List.setIfInBounds_toArray, List.set_cons_zero, List.set_cons_succ])
    refine wpAnyH_take (i := 1) (oi := ({ dst := some 46, op := Op.move (Operand.tmp 1), type := 3, pos := "slices.go:276", after := #[], guard := none } : Oper)) (v := ?_) rfl (by kernel_rfl) (by kernel_rfl) (by kernel_rfl) (fun _ _ _ h => h) (Or.inl ⟨by rfl, ?_⟩) (by assumption) ?_
    rotate_left
    · (intro w hSw; (try dsimp only at hSw); go_simp) <;> with_reducible rfl
    (try simp only [Act.put, List.setIfInBounds_toArray, List.set_cons_zero, List.set_cons_succ])
    refine wpAnyH_take (i := 2) (oi := ({ dst := some 47, op := Op.slice 29 (Operand.tmp 45) none (some (Operand.tmp 46)) none, type := 29, pos := "slices.go:276", after := #[{ on := 0, ground := Ground.data }, { on := 1, ground := Ground.data }], guard := none } : Oper)) (v := ?_) rfl (by kernel_rfl) (by kernel_rfl) (by kernel_rfl) (fun _ _ _ h => h) (Or.inl ⟨by rfl, ?_⟩) (by assumption) ?_
    rotate_left
    · (intro w hSw; (try dsimp only at hSw); go_simp) <;> with_reducible rfl
    (try simp only [Act.put, List.setIfInBounds_toArray, List.set_cons_zero, List.set_cons_succ])
    refine wpAnyH_take (i := 3) (oi := ({ dst := some 48, op := Op.call { callee := Callee.builtin Builtin.len, args := #[Operand.tmp 47], argTypes := #[29] }, type := 3, pos := "slices.go:276", after := #[{ on := 2, ground := Ground.data }], guard := none } : Oper)) (v := ?_) rfl (by kernel_rfl) (by kernel_rfl) (by kernel_rfl) (fun _ _ _ h => h) (Or.inl ⟨by rfl, ?_⟩) (by assumption) ?_
    rotate_left
    · (intro w hSw; (try dsimp only at hSw); go_simp) <;> with_reducible rfl
    (try simp only [Act.put, List.setIfInBounds_toArray, List.set_cons_zero, List.set_cons_succ])
    refine wpAnyH_take (i := 4) (oi := ({ dst := some 49, op := Op.move (Operand.tmp 3), type := 29, pos := "slices.go:276", after := #[], guard := none } : Oper)) (v := ?_) rfl (by kernel_rfl) (by kernel_rfl) (by kernel_rfl) (fun _ _ _ h => h) (Or.inl ⟨by rfl, ?_⟩) (by assumption) ?_
    rotate_left
    · (intro w hSw; (try dsimp only at hSw); go_simp) <;> with_reducible rfl
    (try simp only [Act.put, List.setIfInBounds_toArray, List.set_cons_zero, List.set_cons_succ])
    refine wpAnyH_take (i := 5) (oi := ({ dst := some 50, op := Op.call { callee := Callee.builtin Builtin.len, args := #[Operand.tmp 49], argTypes := #[29] }, type := 3, pos := "slices.go:276", after := #[{ on := 4, ground := Ground.data }], guard := none } : Oper)) (v := ?_) rfl (by kernel_rfl) (by kernel_rfl) (by kernel_rfl) (fun _ _ _ h => h) (Or.inl ⟨by rfl, ?_⟩) (by assumption) ?_
    rotate_left
    · (intro w hSw; (try dsimp only at hSw); go_simp) <;> with_reducible rfl
    (try simp only [Act.put, List.setIfInBounds_toArray, List.set_cons_zero, List.set_cons_succ])
    refine wpAnyH_take (i := 6) (oi := ({ dst := some 51, op := Op.binOp BinOp.add 3 (Operand.tmp 48) (Operand.tmp 50) 3, type := 3, pos := "slices.go:276", after := #[{ on := 3, ground := Ground.data }, { on := 5, ground := Ground.data }], guard := none } : Oper)) (v := ?_) rfl (by kernel_rfl) (by kernel_rfl) (by kernel_rfl) (fun _ _ _ h => h) (Or.inl ⟨by rfl, ?_⟩) (by assumption) ?_
    rotate_left
    · (intro w hSw; (try dsimp only at hSw); go_simp) <;> with_reducible rfl
    (try simp only [Act.put, List.setIfInBounds_toArray, List.set_cons_zero, List.set_cons_succ])
    refine wpAnyH_take (i := 7) (oi := ({ dst := some 52, op := Op.move (Operand.tmp 0), type := 29, pos := "slices.go:276", after := #[], guard := none } : Oper)) (v := ?_) rfl (by kernel_rfl) (by kernel_rfl) (by kernel_rfl) (fun _ _ _ h => h) (Or.inl ⟨by rfl, ?_⟩) (by assumption) ?_
    rotate_left
    · (intro w hSw; (try dsimp only at hSw); go_simp) <;> with_reducible rfl
    (try simp only [Act.put, List.setIfInBounds_toArray, List.set_cons_zero, List.set_cons_succ])
    refine wpAnyH_take (i := 8) (oi := ({ dst := some 53, op := Op.move (Operand.tmp 2), type := 3, pos := "slices.go:276", after := #[], guard := none } : Oper)) (v := ?_) rfl (by kernel_rfl) (by kernel_rfl) (by kernel_rfl) (fun _ _ _ h => h) (Or.inl ⟨by rfl, ?_⟩) (by assumption) ?_
    rotate_left
    · (intro w hSw; (try dsimp only at hSw); go_simp) <;> with_reducible rfl
    (try simp only [Act.put, List.setIfInBounds_toArray, List.set_cons_zero, List.set_cons_succ])
    refine wpAnyH_take (i := 9) (oi := ({ dst := some 54, op := Op.slice 29 (Operand.tmp 52) (some (Operand.tmp 53)) none none, type := 29, pos := "slices.go:276", after := #[{ on := 7, ground := Ground.data }, { on := 8, ground := Ground.data }], guard := none } : Oper)) (v := ?_) rfl (by kernel_rfl) (by kernel_rfl) (by kernel_rfl) (fun _ _ _ h => h) (Or.inl ⟨by rfl, ?_⟩) (by assumption) ?_
    rotate_left
    · (intro w hSw; (try dsimp only at hSw); go_simp) <;> with_reducible rfl
    (try simp only [Act.put, List.setIfInBounds_toArray, List.set_cons_zero, List.set_cons_succ])
    refine wpAnyH_take (i := 10) (oi := ({ dst := some 55, op := Op.call { callee := Callee.builtin Builtin.len, args := #[Operand.tmp 54], argTypes := #[29] }, type := 3, pos := "slices.go:276", after := #[{ on := 9, ground := Ground.data }], guard := none } : Oper)) (v := ?_) rfl (by kernel_rfl) (by kernel_rfl) (by kernel_rfl) (fun _ _ _ h => h) (Or.inl ⟨by rfl, ?_⟩) (by assumption) ?_
    rotate_left
    · (intro w hSw; (try dsimp only at hSw); go_simp) <;> with_reducible rfl
    (try simp only [Act.put, List.setIfInBounds_toArray, List.set_cons_zero, List.set_cons_succ])
    refine wpAnyH_take (i := 11) (oi := ({ dst := some 56, op := Op.binOp BinOp.add 3 (Operand.tmp 51) (Operand.tmp 55) 3, type := 3, pos := "slices.go:276", after := #[{ on := 6, ground := Ground.data }, { on := 10, ground := Ground.data }], guard := none } : Oper)) (v := ?_) rfl (by kernel_rfl) (by kernel_rfl) (by kernel_rfl) (fun _ _ _ h => h) (Or.inl ⟨by rfl, ?_⟩) (by assumption) ?_
    rotate_left
    · (intro w hSw; (try dsimp only at hSw); go_simp) <;> with_reducible rfl
    (try simp only [Act.put, List.setIfInBounds_toArray, List.set_cons_zero, List.set_cons_succ])
    refine wpAnyH_take (i := 12) (oi := ({ dst := some 10, op := Op.assign (Operand.tmp 56), type := 3, pos := "slices.go:276", after := #[{ on := 11, ground := Ground.data }, { on := 0, ground := Ground.phase }, { on := 1, ground := Ground.phase }, { on := 2, ground := Ground.phase }, { on := 3, ground := Ground.phase }, { on := 4, ground := Ground.phase }, { on := 5, ground := Ground.phase }, { on := 6, ground := Ground.phase }, { on := 7, ground := Ground.phase }, { on := 8, ground := Ground.phase }, { on := 9, ground := Ground.phase }, { on := 10, ground := Ground.phase }, { on := 11, ground := Ground.phase }], guard := none } : Oper)) (v := ?_) rfl (by kernel_rfl) (by kernel_rfl) (by kernel_rfl) (fun _ _ _ h => h) (Or.inl ⟨by rfl, ?_⟩) (by assumption) ?_
    rotate_left
    · (intro w hSw; (try dsimp only at hSw); go_simp) <;> with_reducible rfl
    (try simp only [Act.put, List.setIfInBounds_toArray, List.set_cons_zero, List.set_cons_succ])
    refine wpAnyH_done (by kernel_rfl) ?_ _
    refine NoPanic.normal ?_
    go_wp2_with (at_builtin; refine Lib.wpList_copy_run _ rfl _ _ 29 29 rfl _ _ rfl rfl (cp1 _ _) ?_)
    refine wp_region_noPanic ?_
    refine wp_region_held_drew (S := fun _ => True) (by kernel_rfl) (trivial) (fun hHeld => ?_)
    refine wpAnyH_take (i := 0) (oi := ({ dst := some 98, op := Op.move (Operand.tmp 12), type := 29, pos := "slices.go:290", after := #[], guard := none } : Oper)) (v := ?_) rfl (by kernel_rfl) (by kernel_rfl) (by kernel_rfl) (fun _ _ _ h => h) (Or.inl ⟨by rfl, ?_⟩) (by assumption) ?_
    rotate_left
    · (intro w hSw; (try dsimp only at hSw); go_simp) <;> with_reducible rfl
    (try simp only [Act.put, List.setIfInBounds_toArray, List.set_cons_zero, List.set_cons_succ])
    refine wpAnyH_take (i := 1) (oi := ({ dst := some 99, op := Op.move (Operand.tmp 1), type := 3, pos := "slices.go:290", after := #[], guard := none } : Oper)) (v := ?_) rfl (by kernel_rfl) (by kernel_rfl) (by kernel_rfl) (fun _ _ _ h => h) (Or.inl ⟨by rfl, ?_⟩) (by assumption) ?_
    rotate_left
    · (intro w hSw; (try dsimp only at hSw); go_simp) <;> with_reducible rfl
    (try simp only [Act.put, List.setIfInBounds_toArray, List.set_cons_zero, List.set_cons_succ])
    refine wpAnyH_take (i := 2) (oi := ({ dst := some 100, op := Op.move (Operand.tmp 3), type := 29, pos := "slices.go:290", after := #[], guard := none } : Oper)) (v := ?_) rfl (by kernel_rfl) (by kernel_rfl) (by kernel_rfl) (fun _ _ _ h => h) (Or.inl ⟨by rfl, ?_⟩) (by assumption) ?_
    rotate_left
    · (intro w hSw; (try dsimp only at hSw); go_simp) <;> with_reducible rfl
    (try simp only [Act.put, List.setIfInBounds_toArray, List.set_cons_zero, List.set_cons_succ])
    refine wpAnyH_take (i := 3) (oi := ({ dst := some 101, op := Op.call { callee := Callee.builtin Builtin.len, args := #[Operand.tmp 100], argTypes := #[29] }, type := 3, pos := "slices.go:290", after := #[{ on := 2, ground := Ground.data }], guard := none } : Oper)) (v := ?_) rfl (by kernel_rfl) (by kernel_rfl) (by kernel_rfl) (fun _ _ _ h => h) (Or.inl ⟨by rfl, ?_⟩) (by assumption) ?_
    rotate_left
    · (intro w hSw; (try dsimp only at hSw); go_simp) <;> with_reducible rfl
    (try simp only [Act.put, List.setIfInBounds_toArray, List.set_cons_zero, List.set_cons_succ])
    refine wpAnyH_take (i := 4) (oi := ({ dst := some 102, op := Op.binOp BinOp.add 3 (Operand.tmp 99) (Operand.tmp 101) 3, type := 3, pos := "slices.go:290", after := #[{ on := 1, ground := Ground.data }, { on := 3, ground := Ground.data }], guard := none } : Oper)) (v := ?_) rfl (by kernel_rfl) (by kernel_rfl) (by kernel_rfl) (fun _ _ _ h => h) (Or.inl ⟨by rfl, ?_⟩) (by assumption) ?_
    rotate_left
    · (intro w hSw; (try dsimp only at hSw); go_simp) <;> with_reducible rfl
    (try simp only [Act.put, List.setIfInBounds_toArray, List.set_cons_zero, List.set_cons_succ])
    refine wpAnyH_take (i := 5) (oi := ({ dst := some 103, op := Op.slice 29 (Operand.tmp 98) (some (Operand.tmp 102)) none none, type := 29, pos := "slices.go:290", after := #[{ on := 0, ground := Ground.data }, { on := 4, ground := Ground.data }], guard := none } : Oper)) (v := ?_) rfl (by kernel_rfl) (by kernel_rfl) (by kernel_rfl) (fun _ _ _ h => h) (Or.inl ⟨by rfl, ?_⟩) (by assumption) ?_
    rotate_left
    · (intro w hSw; (try dsimp only at hSw); go_simp) <;> with_reducible rfl
    (try simp only [Act.put, List.setIfInBounds_toArray, List.set_cons_zero, List.set_cons_succ])
    refine wpAnyH_take (i := 6) (oi := ({ dst := some 104, op := Op.move (Operand.tmp 0), type := 29, pos := "slices.go:290", after := #[], guard := none } : Oper)) (v := ?_) rfl (by kernel_rfl) (by kernel_rfl) (by kernel_rfl) (fun _ _ _ h => h) (Or.inl ⟨by rfl, ?_⟩) (by assumption) ?_
    rotate_left
    · (intro w hSw; (try dsimp only at hSw); go_simp) <;> with_reducible rfl
    (try simp only [Act.put, List.setIfInBounds_toArray, List.set_cons_zero, List.set_cons_succ])
    refine wpAnyH_take (i := 7) (oi := ({ dst := some 105, op := Op.move (Operand.tmp 2), type := 3, pos := "slices.go:290", after := #[], guard := none } : Oper)) (v := ?_) rfl (by kernel_rfl) (by kernel_rfl) (by kernel_rfl) (fun _ _ _ h => h) (Or.inl ⟨by rfl, ?_⟩) (by assumption) ?_
    rotate_left
    · (intro w hSw; (try dsimp only at hSw); go_simp) <;> with_reducible rfl
    (try simp only [Act.put, List.setIfInBounds_toArray, List.set_cons_zero, List.set_cons_succ])
    refine wpAnyH_take (i := 8) (oi := ({ dst := some 106, op := Op.slice 29 (Operand.tmp 104) (some (Operand.tmp 105)) none none, type := 29, pos := "slices.go:290", after := #[{ on := 6, ground := Ground.data }, { on := 7, ground := Ground.data }], guard := none } : Oper)) (v := ?_) rfl (by kernel_rfl) (by kernel_rfl) (by kernel_rfl) (fun _ _ _ h => h) (Or.inl ⟨by rfl, ?_⟩) (by assumption) ?_
    rotate_left
    · (intro w hSw; (try dsimp only at hSw); go_simp) <;> with_reducible rfl
    (try simp only [Act.put, List.setIfInBounds_toArray, List.set_cons_zero, List.set_cons_succ])
    refine wpAnyH_ready (rs := [9]) (by kernel_rfl) (by simp) ?_
    refine AllReadyH.cons (o := ({ dst := some 107, op := Op.call { callee := Callee.builtin Builtin.copy, args := #[Operand.tmp 103, Operand.tmp 106], argTypes := #[29, 29] }, type := 3, pos := "slices.go:290", after := #[{ on := 5, ground := Ground.data }, { on := 8, ground := Ground.data }], guard := none } : Oper)) rfl (fun K hK => ?_) ?_
    · skip
      rw [if_pos (by rfl)]
      refine Lib.wp_copy_run _ (.tmp 103) (.tmp 106) 29 29 rfl (.slice (some ⟨g, (i + 1) * 2, none⟩) m (c - (i + 1))) (.slice (some ⟨g, j * 2, none⟩) m (c - j)) (by simp [Act.eval]) (by simp [Act.eval]) (cp2 _ _ _) ?_
      refine hK.out _ _ ?_ (fun hHeld => ?_)
      · trivial
      clear hK K
      (try simp only [Act.put, List.setIfInBounds_toArray, List.set_cons_zero, List.set_cons_succ])
      refine wpAnyH_done (by kernel_rfl) ?_ _
      refine NoPanic.normal ?_
      go_wp2_with fail
      all_goals
        go_ret
        exact ⟨_, _, rfl, B2.out.1, B2.out.2, fresh_at hB⟩
    exact AllReadyH.nil

end Go.Proofs.Ytmagdhcpbofkbaa
/-
  The program's changed.
-/
namespace Go.Proofs.Ytmagdhcpbofkbaa
open Go.ChangeShapes Go.WideShapes Go.ChangeAt Go.RowKit Go.Deep
set_option linter.unusedVariables false
set_option maxRecDepth 20000

theorem MineR.keep {w w' : World} {B c : Nat} {A : Option Addr} {l : List M.R} (h : MineR w B A l c) (hb : ∀ g, g < w.heap.size → w'.heap[g]? = w.heap[g]?) : MineR w' B A l c := by
  rcases h with h | ⟨g, cs, rfl, h1, h2, h3⟩
  · exact .inl h
  · exact .inr ⟨g, cs, rfl, h1, h2.keep (hb g h2.lt), h3⟩
theorem MineR.below {w w' : World} {B c : Nat} {A : Option Addr} {l : List M.R} (h : MineR w B A l c) (hb : Below w.heap.size w w') : MineR w' B A l c := h.keep hb.block
theorem MineR.alloc {w : World} {B c : Nat} {A : Option Addr} {l : List M.R} (h : MineR w B A l c) (o : Obj) : MineR (w.alloc o) B A l c := h.keep (Below.heap_alloc w o)
theorem MineR.lt {w : World} {B c : Nat} {A : Option Addr} {l : List M.R} (h : MineR w B A l c) : ∀ b, A = some b → b.block < w.heap.size := fun b e => by
  rcases h with ⟨rfl, _⟩ | ⟨g, cs, rfl, h1, h2, h3⟩
  · cases e
  · injection e with e
    rw [← e]
    exact h2.lt

set_option maxHeartbeats 1000000 in
theorem replace_ins (w : World) (B n c vb i : Nat) (A : Option Addr) (l : List M.R) (p q : Int) (hm : MineR w B A l c) (hn : n = l.length) (hn4 : n ≤ 4000000000) (hBw : B ≤ w.heap.size) (hi : i ≤ n) (hv : Blk w vb [.int .i64 p, .int .i64 q]) (hne : ∀ b, A = some b → vb ≠ b.block) :
    Calls Try.prog 91 #[.slice A n c, .int .i64 (i : Int), .int .i64 (i : Int), .slice (some ⟨vb, 0, none⟩) 1 1] w (Got w B (n + 1) (l.take i ++ (⟨p, q⟩ :: l.drop i))) := by
  have hnc : n ≤ c := by
    rcases hm with ⟨_, rfl, rfl⟩ | ⟨g, cs, _, _, _, h, _⟩
    · simp at hn; omega
    · omega
  have HC := Lib.hid (insert_any w B n c vb i A l p q hm hn hn4 hBw hi hv hne)
  have hic : i ≤ c := by omega
  clear hm hn hv hne
  go_enter Try.func91, Try.ntmps91
  go_wp2_with (go_at_call 95; refine HC.out.mono ?_; rintro e w5 ⟨A5, c5, rfl, hr5, hb5, hf5⟩)
  all_goals
    go_ret
    exact ⟨_, _, rfl, hr5, hb5, hf5⟩
theorem replace_any (w : World) (B n c vb i j t : Nat) (A : Option Addr) (l : List M.R) (p q : Int) (hm : MineR w B A l c) (hn : n = l.length) (hn4 : n ≤ 4000000000) (hBw : B ≤ w.heap.size) (hij : i ≤ j) (hj : j ≤ n) (ht : t = i + 1 + (n - j)) (hv : Blk w vb [.int .i64 p, .int .i64 q]) (hne : ∀ b, A = some b → vb ≠ b.block) :
    Calls Try.prog 91 #[.slice A n c, .int .i64 (i : Int), .int .i64 (j : Int), .slice (some ⟨vb, 0, none⟩) 1 1] w (Got w B t (l.take i ++ (⟨p, q⟩ :: l.drop j))) := by
  rcases Nat.lt_or_ge i j with h | h
  · rcases hm with ⟨rfl, rfl, rfl⟩ | ⟨g, cs, rfl, hB, hb, h1, h2, h3, h4⟩
    · simp at hn; omega
    · subst hn
      have hne' : vb ≠ g := hne _ rfl
      rcases Nat.lt_or_ge j l.length with hr | hr
      · exact replace_mid w B l.length c vb g i j cs l p q hb h3 rfl h2 h1 h4 h hB hv hne' hr t ht
      · obtain rfl : j = l.length := by omega
        have := replace_end w B l.length c vb g i l.length cs l p q hb h3 rfl h2 h1 h4 h hB hv hne' rfl
        rw [show l.drop l.length = [] from List.drop_length, show t = i + 1 by omega]
        exact this
  · obtain rfl : i = j := by omega
    rw [show t = n + 1 by omega]
    exact replace_ins w B n c vb i A l p q hm hn hn4 hBw hj hv hne

set_option maxHeartbeats 2000000 in
theorem changed_put (w : World) (A : Option Addr) (l : List M.R) (z c i j t : Nat) (p q : Int) (hz : z = l.length) (hA : Runs w A l) (hl : z ≤ 4000000000) (hij : i ≤ j) (hj : j ≤ z) (ht : t = i + 1 + (z - j)) (hq : q ≠ 0) :
    Calls Try.prog 77 #[.slice A z c, .int .i64 (i : Int), .int .i64 (j : Int), .agg #[.int .i64 p, .int .i64 q]] w (Got w w.heap.size t (l.take i ++ (⟨p, q⟩ :: l.drop j))) := by
  have b1 : Below w.heap.size w (w.alloc (.cells #[.int .i64 p, .int .i64 q] 34)) := (Below.refl _ _).alloc (Nat.le_refl _) _
  have hA1 := hA.alloc (.cells #[.int .i64 p, .int .i64 q] 34)
  have x1 := Box.new w 34 p q
  have s1 : (w.alloc (.cells #[.int .i64 p, .int .i64 q] 34)).heap.size = w.heap.size + 1 := by simp
  have H1 := Lib.hid (And.intro b1 (And.intro hA1 (And.intro x1 s1)))
  have HZ := Lib.hid hz
  have HQ := Lib.hid hq
  clear b1 hA1 x1 s1 hz hA hq
  have HT := Lib.hid ht
  clear ht
  go_enter Try.func77, Try.ntmps77
  go_upto_region 2 with (go_at_call 46; refine (clone_any _ A l z c HZ.out H1.out.2.1 hl).mono ?_; rintro e w2 ⟨A2, c2, rfl, m2, b2⟩)
  have x2 := H1.out.2.2.1.below b2
  have M2 := Lib.hid (And.intro m2 (And.intro b2 x2))
  have q0 := x2.c0
  have q1 := x2.c1
  clear m2 b2 x2
  go_upto_region 4 with (go_at_call 89; refine (some_any _ p q true (by have := HQ.out; simp [this])).mono ?_; rintro e w3 ⟨rfl, b3⟩)
  have x3 := M2.out.2.2.below b3
  have m3 := M2.out.1.below b3
  have r0 := x3.c0
  have r1 := x3.c1
  have v4 := Blk.new w3 [.int .i64 p, .int .i64 q]
  have m4 := m3.alloc (.cells #[.int .i64 p, .int .i64 q] 34)
  have hs1 := H1.out.2.2.2
  have hs2 := M2.out.2.1.size
  have hs3 := b3.size
  have bb : Below w.heap.size w (w3.alloc (.cells #[.int .i64 p, .int .i64 q] 34)) := (below_call (below_call H1.out.1 M2.out.2.1) b3).alloc (by omega) _
  have hcall := replace_any (w3.alloc (.cells #[.int .i64 p, .int .i64 q] 34)) (w.alloc (.cells #[.int .i64 p, .int .i64 q] 34)).heap.size z c2 w3.heap.size i j t A2 l p q m4 HZ.out hl (by simp; omega) hij hj HT.out v4 (fun b e => by have := m3.lt b e; omega)
  have HC := Lib.hid (And.intro hcall bb)
  clear x3 m3 v4 m4 hs1 hs2 hs3 bb hcall b3 q0 q1
  go_wp2_with (go_at_call 91; refine HC.out.1.mono ?_; rintro e w5 ⟨A5, c5, rfl, hr5, hb5, hf5⟩)
  go_ret
  exact ⟨_, _, rfl, hr5, HC.out.2.trans (hb5.mono (by rw [H1.out.2.2.2]; omega)), hf5.mono (by rw [H1.out.2.2.2]; omega)⟩

set_option maxHeartbeats 2000000 in
theorem changed_del (w : World) (A : Option Addr) (l : List M.R) (z c i : Nat) (hz : z = l.length) (hA : Runs w A l) (hl : z ≤ 4000000000) (hi : i < z) :
    Calls Try.prog 77 #[.slice A z c, .int .i64 (i : Int), .int .i64 ((i : Int) + 1), .agg #[.int .i64 0, .int .i64 0]] w (Got w w.heap.size (z - 1) (l.take i ++ l.drop (i + 1))) := by
  have b1 : Below w.heap.size w (w.alloc (.cells #[.int .i64 0, .int .i64 0] 34)) := (Below.refl _ _).alloc (Nat.le_refl _) _
  have hA1 := hA.alloc (.cells #[.int .i64 0, .int .i64 0] 34)
  have x1 := Box.new w 34 0 0
  have s1 : (w.alloc (.cells #[.int .i64 0, .int .i64 0] 34)).heap.size = w.heap.size + 1 := by simp
  have H1 := Lib.hid (And.intro b1 (And.intro hA1 (And.intro x1 s1)))
  have HZ := Lib.hid hz
  clear b1 hA1 x1 s1 hz hA
  go_enter Try.func77, Try.ntmps77
  go_upto_region 2 with (go_at_call 46; refine (clone_any _ A l z c HZ.out H1.out.2.1 hl).mono ?_; rintro e w2 ⟨A2, c2, rfl, m2, b2⟩)
  have x2 := H1.out.2.2.1.below b2
  have M2 := Lib.hid (And.intro m2 (And.intro b2 x2))
  have q0 := x2.c0
  have q1 := x2.c1
  clear m2 b2 x2
  go_upto_region 3 with (go_at_call 89; refine (some_any _ 0 0 false rfl).mono ?_; rintro e w3 ⟨rfl, b3⟩)
  have m3 := M2.out.1.below b3
  have bb : Below w.heap.size w w3 := below_call (below_call H1.out.1 M2.out.2.1) b3
  have HB := Lib.hid bb
  rcases m3 with ⟨_, h, _⟩ | ⟨g, cs, rfl, hB, hb, h1, h2, h3, h4⟩
  · have := HZ.out
    rw [h] at this
    simp at this
    omega
  have hcall := delete_any w3 g z c2 i cs l hb h3 HZ.out (by rw [HZ.out]; exact h1) h2 (by rw [HZ.out]; exact h4) hi w.heap.size (by rw [H1.out.2.2.2] at hB; omega)
  have HC := Lib.hid hcall
  have HBG := Lib.hid (show w.heap.size ≤ g by rw [H1.out.2.2.2] at hB; omega)
  clear hcall hb h1 h2 h3 h4 hB bb b3 q0 q1
  go_wp2_with (go_at_call 90; refine HC.out.mono ?_; rintro e w5 ⟨ds, rfl, hd5, ht5, hb5⟩)
  go_ret
  refine ⟨_, _, rfl, hd5.runs ?_, HB.out.trans hb5, fresh_at HBG.out⟩
  rw [← ht5]
  congr 1
  have := HZ.out
  rw [List.length_append, List.length_take, List.length_drop]
  omega
end Go.Proofs.Ytmagdhcpbofkbaa
/-
  The program's Take.
-/
namespace Go.Proofs.Ytmagdhcpbofkbaa
open Go.ChangeShapes Go.WideShapes Go.ChangeAt Go.RowKit Go.Deep
set_option linter.unusedVariables false
set_option maxRecDepth 20000

def takeB (l : List M.R) (n : Int) : Bool := decide (0 ≤ M.best n l)
def takeP (l : List M.R) (n : Int) : Int := if takeB l n = true then (l.getD (M.best n l).toNat ⟨0, 0⟩).p else 0
def takeL (l : List M.R) (n : Int) : List M.R := if takeB l n = true then M.left l (M.best n l).toNat n else []
/-- What Take answers. -/
def GotT (w : World) (p : Int) (l : List M.R) (b : Bool) (e : Ending) (w' : World) : Prop := ∃ A' t c', e = .returned (.tuple #[.int .i64 p, .slice A' t c', .bool b]) ∧ t = l.length ∧ Runs w' A' l ∧ Below w.heap.size w w' ∧ FreshR w.heap.size A'

set_option maxHeartbeats 2000000 in
theorem take_any (w : World) (A : Option Addr) (l : List M.R) (z c : Nat) (hz : z = l.length) (hA : Runs w A l) (hl : z ≤ 4000000000) (hok : M.Ok (-1) 1073741824 l) (n : Int) :
    Calls Try.prog 66 #[.slice A z c, .int .i64 n] w (GotT w (takeP l n) (takeL l n) (takeB l n)) := by
  have HZ := Lib.hid hz
  have HA := Lib.hid hA
  have HO := Lib.hid hok
  clear hz hA hok
  have hbest := M.best_is n l
  obtain ⟨b, hb⟩ : ∃ b, b = M.best n l := ⟨_, rfl⟩
  have hcall := fun W h => best_any W A l z c HZ.out h (by omega) n
  rw [← hb] at hbest hcall
  have HC := Lib.hid hcall
  clear hcall
  rcases Int.lt_or_le b 0 with h | h
  · have hB : takeB l n = false := by unfold takeB; rw [← hb]; simp; omega
    have HR := Lib.hid (show takeP l n = 0 ∧ takeL l n = [] ∧ takeB l n = false from ⟨by rw [takeP, hB]; rfl, by rw [takeL, hB]; rfl, hB⟩)
    clear hbest hb hB
    go_enter Try.func66, Try.ntmps66
    go_wp2_with (go_at_call 82; refine (HC.out _ HA.out).mono ?_; rintro e w2 ⟨rfl, b2⟩)
    rw [HR.out.1, HR.out.2.1, HR.out.2.2]
    refine bodyPost_ret (v := .tuple #[.int .i64 0, .slice none 0 0, .bool false]) ?_ rfl ?_
    · simp [results, go_sem]
    · exact ⟨_, _, _, rfl, rfl, Runs.nil, b2, fresh_none _⟩
  · obtain ⟨k, hk, rfl, hn1, hn2, hn3⟩ := hbest.pos h
    have hB : takeB l n = true := by unfold takeB; rw [← hb]; simp
    have eL : takeL l n = M.left l k n := by rw [takeL, if_pos hB, ← hb]; rfl
    have eP : takeP l n = l[k].p := by rw [takeP, if_pos hB, ← hb, Int.toNat_natCast, M.getD_at l k hk]
    obtain ⟨bl, o, rfl, hc⟩ := HA.out (by omega)
    have c0 := (hc k hk).1
    have c1 := (hc k hk).2
    have bk := ok_at HO.out k hk
    have eleft : M.left l k n = l.take k ++ ((if l[k].n = n then [] else [⟨l[k].p + n, l[k].n - n⟩]) ++ l.drop (k + 1)) := by rw [M.left, M.getD_at l k hk]
    obtain ⟨p, hp⟩ : ∃ p, p = l[k].p := ⟨_, rfl⟩
    obtain ⟨m, hm⟩ : ∃ m, m = l[k].n := ⟨_, rfl⟩
    rw [← hp] at c0 bk eP eleft
    rw [← hm] at c1 bk eleft hn2
    have hkz : k < z := by rw [HZ.out]; exact hk
    have HR := Lib.hid (show takeP l n = p ∧ takeL l n = M.left l k n ∧ takeB l n = true from ⟨eP, eL, hB⟩)
    have HS := Lib.hid (show ∀ W, Below w.heap.size w W → W.cell? ⟨bl, o + k * 2, none⟩ = some (.int .i64 p) ∧ W.cell? ⟨bl, o + k * 2 + 1, none⟩ = some (.int .i64 m) from fun W hW => ⟨(hW.cell (lt_of_cell c0)).trans c0, (hW.cell (lt_of_cell c1)).trans c1⟩)
    have hwr : IntKind.i64.wrap ((k : Int) + 1) = (k : Int) + 1 := by rw [IntKind.wrap_i64]; omega
    have HL := Lib.hid eleft
    have HK := Lib.hid bk
    clear hbest hb hB eL eP hc c0 c1 hp hm hn3 h eleft bk hk
    go_enter Try.func66, Try.ntmps66
    go_wp2_with (go_at_call 82; refine (HC.out _ HA.out).mono ?_; rintro e w2 ⟨rfl, b2⟩)
    have B2 := Lib.hid b2
    clear b2
    by_cases t : m = n
    · have HE := Lib.hid (show M.left l k n = l.take k ++ l.drop (k + 1) by rw [HL.out, if_pos t]; rfl)
      have hrest := fun W => rest_any W p m n 0 0 (by rw [if_pos t]) (by omega) (by have := HK.out; omega) (by have := HK.out; omega) (by omega) (by omega)
      have HRS := Lib.hid hrest
      clear t hrest HL
      refine wp_region_noPanic ?_
      refine wp_region_held_drew (S := fun W => W.cell? ⟨bl, o + k * 2, none⟩ = some (.int .i64 p) ∧ W.cell? ⟨bl, o + k * 2 + 1, none⟩ = some (.int .i64 m)) (by kernel_rfl) (HS.out _ B2.out.drew) (fun hHeld => ?_)
      refine wpAnyH_take (i := 0) (oi := ({ dst := some 13, op := Op.move (Operand.tmp 0), type := 29, pos := "runs.go:81", after := #[], guard := none } : Oper)) (v := ?_) rfl (by kernel_rfl) (by kernel_rfl) (by kernel_rfl) (fun _ _ _ h => h) (Or.inl ⟨by rfl, ?_⟩) (by assumption) ?_
      rotate_left
      · (intro w hSw; (try dsimp only at hSw); go_simp) <;> with_reducible rfl
      (try simp only [Act.put, List.setIfInBounds_toArray, List.set_cons_zero, List.set_cons_succ])
      refine wpAnyH_take (i := 1) (oi := ({ dst := some 14, op := Op.move (Operand.tmp 7), type := 3, pos := "runs.go:81", after := #[], guard := none } : Oper)) (v := ?_) rfl (by kernel_rfl) (by kernel_rfl) (by kernel_rfl) (fun _ _ _ h => h) (Or.inl ⟨by rfl, ?_⟩) (by assumption) ?_
      rotate_left
      · (intro w hSw; (try dsimp only at hSw); go_simp) <;> with_reducible rfl
      (try simp only [Act.put, List.setIfInBounds_toArray, List.set_cons_zero, List.set_cons_succ])
      refine wpAnyH_take (i := 2) (oi := ({ dst := some 15, op := Op.indexAddr 29 (Operand.tmp 13) (Operand.tmp 14), type := 0, pos := "runs.go:81", after := #[{ on := 0, ground := Ground.data }, { on := 1, ground := Ground.data }], guard := none } : Oper)) (v := ?_) rfl (by kernel_rfl) (by kernel_rfl) (by kernel_rfl) (fun _ _ _ h => h) (Or.inl ⟨by rfl, ?_⟩) (by assumption) ?_
      rotate_left
      · (intro w hSw; (try dsimp only at hSw); go_simp) <;> with_reducible rfl
      (try simp only [Act.put, List.setIfInBounds_toArray, List.set_cons_zero, List.set_cons_succ])
      refine wpAnyH_take (i := 3) (oi := ({ dst := some 16, op := Op.fieldAddr 34 (Operand.tmp 15) 0, type := 0, pos := "runs.go:81", after := #[{ on := 2, ground := Ground.data }], guard := none } : Oper)) (v := ?_) rfl (by kernel_rfl) (by kernel_rfl) (by kernel_rfl) (fun _ _ _ h => h) (Or.inl ⟨by rfl, ?_⟩) (by assumption) ?_
      rotate_left
      · (intro w hSw; (try dsimp only at hSw); go_simp) <;> with_reducible rfl
      (try simp only [Act.put, List.setIfInBounds_toArray, List.set_cons_zero, List.set_cons_succ])
      refine wpAnyH_take (i := 4) (oi := ({ dst := some 17, op := Op.load 3 (Operand.tmp 16), type := 3, pos := "runs.go:81", after := #[{ on := 3, ground := Ground.data }], guard := none } : Oper)) (v := ?_) rfl (by kernel_rfl) (by kernel_rfl) (by kernel_rfl) (fun _ _ _ h => h) (Or.inl ⟨by rfl, ?_⟩) (by assumption) ?_
      rotate_left
      · (intro w hSw; (try dsimp only at hSw); go_simp) <;> with_reducible rfl
      (try simp only [Act.put, List.setIfInBounds_toArray, List.set_cons_zero, List.set_cons_succ])
      refine wpAnyH_take (i := 5) (oi := ({ dst := some 18, op := Op.move (Operand.tmp 0), type := 29, pos := "runs.go:81", after := #[], guard := none } : Oper)) (v := ?_) rfl (by kernel_rfl) (by kernel_rfl) (by kernel_rfl) (fun _ _ _ h => h) (Or.inl ⟨by rfl, ?_⟩) (by assumption) ?_
      rotate_left
      · (intro w hSw; (try dsimp only at hSw); go_simp) <;> with_reducible rfl
      (try simp only [Act.put, List.setIfInBounds_toArray, List.set_cons_zero, List.set_cons_succ])
      refine wpAnyH_take (i := 6) (oi := ({ dst := some 19, op := Op.move (Operand.tmp 7), type := 3, pos := "runs.go:81", after := #[], guard := none } : Oper)) (v := ?_) rfl (by kernel_rfl) (by kernel_rfl) (by kernel_rfl) (fun _ _ _ h => h) (Or.inl ⟨by rfl, ?_⟩) (by assumption) ?_
      rotate_left
      · (intro w hSw; (try dsimp only at hSw); go_simp) <;> with_reducible rfl
      (try simp only [Act.put, List.setIfInBounds_toArray, List.set_cons_zero, List.set_cons_succ])
      refine wpAnyH_take (i := 7) (oi := ({ dst := some 20, op := Op.move (Operand.tmp 7), type := 3, pos := "runs.go:81", after := #[], guard := none } : Oper)) (v := ?_) rfl (by kernel_rfl) (by kernel_rfl) (by kernel_rfl) (fun _ _ _ h => h) (Or.inl ⟨by rfl, ?_⟩) (by assumption) ?_
      rotate_left
      · (intro w hSw; (try dsimp only at hSw); go_simp) <;> with_reducible rfl
      (try simp only [Act.put, List.setIfInBounds_toArray, List.set_cons_zero, List.set_cons_succ])
      refine wpAnyH_take (i := 8) (oi := ({ dst := some 21, op := Op.binOp BinOp.add 3 (Operand.tmp 20) (Operand.const (Value.int IntKind.i64 1)) 3, type := 3, pos := "runs.go:81", after := #[{ on := 7, ground := Ground.data }], guard := none } : Oper)) (v := ?_) rfl (by kernel_rfl) (by kernel_rfl) (by kernel_rfl) (fun _ _ _ h => h) (Or.inl ⟨by rfl, ?_⟩) (by assumption) ?_
      rotate_left
      · (intro w hSw; (try dsimp only at hSw); go_simp) <;> with_reducible rfl
      (try simp only [Act.put, List.setIfInBounds_toArray, List.set_cons_zero, List.set_cons_succ])
      refine wpAnyH_take (i := 9) (oi := ({ dst := some 22, op := Op.move (Operand.tmp 0), type := 29, pos := "runs.go:81", after := #[], guard := none } : Oper)) (v := ?_) rfl (by kernel_rfl) (by kernel_rfl) (by kernel_rfl) (fun _ _ _ h => h) (Or.inl ⟨by rfl, ?_⟩) (by assumption) ?_
      rotate_left
      · (intro w hSw; (try dsimp only at hSw); go_simp) <;> with_reducible rfl
      (try simp only [Act.put, List.setIfInBounds_toArray, List.set_cons_zero, List.set_cons_succ])
      refine wpAnyH_take (i := 10) (oi := ({ dst := some 23, op := Op.move (Operand.tmp 7), type := 3, pos := "runs.go:81", after := #[], guard := none } : Oper)) (v := ?_) rfl (by kernel_rfl) (by kernel_rfl) (by kernel_rfl) (fun _ _ _ h => h) (Or.inl ⟨by rfl, ?_⟩) (by assumption) ?_
      rotate_left
      · (intro w hSw; (try dsimp only at hSw); go_simp) <;> with_reducible rfl
      (try simp only [Act.put, List.setIfInBounds_toArray, List.set_cons_zero, List.set_cons_succ])
      refine wpAnyH_take (i := 11) (oi := ({ dst := some 24, op := Op.indexAddr 29 (Operand.tmp 22) (Operand.tmp 23), type := 0, pos := "runs.go:81", after := #[{ on := 9, ground := Ground.data }, { on := 10, ground := Ground.data }], guard := none } : Oper)) (v := ?_) rfl (by kernel_rfl) (by kernel_rfl) (by kernel_rfl) (fun _ _ _ h => h) (Or.inl ⟨by rfl, ?_⟩) (by assumption) ?_
      rotate_left
      · (intro w hSw; (try dsimp only at hSw); go_simp) <;> with_reducible rfl
      (try simp only [Act.put, List.setIfInBounds_toArray, List.set_cons_zero, List.set_cons_succ])
      refine wpAnyH_take (i := 12) (oi := ({ dst := some 25, op := Op.load 34 (Operand.tmp 24), type := 34, pos := "runs.go:81", after := #[{ on := 11, ground := Ground.data }], guard := none } : Oper)) (v := ?_) rfl (by kernel_rfl) (by kernel_rfl) (by kernel_rfl) (fun _ _ _ h => h) (Or.inl ⟨by rfl, ?_⟩) (by assumption) ?_
      rotate_left
      · (intro w hSw; (try dsimp only at hSw); go_simp) <;> with_reducible rfl
      (try simp only [Act.put, List.setIfInBounds_toArray, List.set_cons_zero, List.set_cons_succ])
      refine wpAnyH_take (i := 13) (oi := ({ dst := some 26, op := Op.move (Operand.tmp 1), type := 3, pos := "runs.go:81", after := #[], guard := none } : Oper)) (v := ?_) rfl (by kernel_rfl) (by kernel_rfl) (by kernel_rfl) (fun _ _ _ h => h) (Or.inl ⟨by rfl, ?_⟩) (by assumption) ?_
      rotate_left
      · (intro w hSw; (try dsimp only at hSw); go_simp) <;> with_reducible rfl
      (try simp only [Act.put, List.setIfInBounds_toArray, List.set_cons_zero, List.set_cons_succ])
      refine wpAnyH_ready (rs := [14]) (by kernel_rfl) (by simp) ?_
      refine AllReadyH.cons (o := ({ dst := some 27, op := Op.call { callee := Callee.value (Operand.func 83), args := #[Operand.tmp 25, Operand.tmp 26], argTypes := #[34, 3] }, type := 34, pos := "runs.go:81", after := #[{ on := 12, ground := Ground.data }, { on := 13, ground := Ground.data }], guard := none } : Oper)) rfl (fun K hK => ?_) ?_
      · go_simp
        refine (HRS.out _).mono ?_
        rintro e w3 ⟨rfl, hb3⟩
        have hB3 : Below w.heap.size w w3 := below_call B2.out (below_drewL hb3)
        go_wp2_with fail
        refine hK.out _ _ ?_ (fun hHeld => ?_)
        · exact HS.out _ hB3
        clear hK K
        (try simp only [Act.put, List.setIfInBounds_toArray, List.set_cons_zero, List.set_cons_succ])
        refine wpAnyH_ready (rs := [15]) (by kernel_rfl) (by simp) ?_
        refine AllReadyH.cons (o := ({ dst := some 28, op := Op.call { callee := Callee.value (Operand.func 77), args := #[Operand.tmp 18, Operand.tmp 19, Operand.tmp 21, Operand.tmp 27], argTypes := #[29, 3, 3, 34] }, type := 29, pos := "runs.go:81", after := #[{ on := 5, ground := Ground.data }, { on := 6, ground := Ground.data }, { on := 8, ground := Ground.data }, { on := 14, ground := Ground.data }, { on := 14, ground := Ground.chain }], guard := none } : Oper)) rfl (fun K hK => ?_) ?_
        · go_simp
          refine (changed_del w3 (some ⟨bl, o, none⟩) l z c k HZ.out (HA.out.below hB3) hl hkz).mono ?_
          rintro e w4 ⟨A4, c4, rfl, hr4, hb4, hf4⟩
          have hB4 : Below w.heap.size w w4 := below_call hB3 hb4
          go_wp2_with fail
          refine hK.out _ _ ?_ (fun hHeld => ?_)
          · exact HS.out _ hB4
          clear hK K
          (try simp only [Act.put, List.setIfInBounds_toArray, List.set_cons_zero, List.set_cons_succ])
          refine wpAnyH_take (i := 16) (oi := ({ dst := some 4, op := Op.assign (Operand.tmp 17), type := 3, pos := "runs.go:81", after := #[{ on := 4, ground := Ground.data }, { on := 15, ground := Ground.chain }, { on := 0, ground := Ground.phase }, { on := 1, ground := Ground.phase }, { on := 2, ground := Ground.phase }, { on := 3, ground := Ground.phase }, { on := 4, ground := Ground.phase }, { on := 5, ground := Ground.textOnly Departure.lateStores }, { on := 6, ground := Ground.textOnly Departure.lateStores }, { on := 7, ground := Ground.textOnly Departure.lateStores }, { on := 8, ground := Ground.textOnly Departure.lateStores }, { on := 9, ground := Ground.textOnly Departure.lateStores }, { on := 10, ground := Ground.textOnly Departure.lateStores }, { on := 11, ground := Ground.textOnly Departure.lateStores }, { on := 12, ground := Ground.textOnly Departure.lateStores }, { on := 13, ground := Ground.textOnly Departure.lateStores }, { on := 14, ground := Ground.textOnly Departure.lateStoresUnsure }, { on := 15, ground := Ground.textOnly Departure.lateStoresUnsure }], guard := none } : Oper)) (v := ?_) rfl (by kernel_rfl) (by kernel_rfl) (by kernel_rfl) (fun _ _ _ h => h) (Or.inl ⟨by rfl, ?_⟩) (by assumption) ?_
          rotate_left
          · (intro w hSw; (try dsimp only at hSw); go_simp) <;> with_reducible rfl
          (try simp only [Act.put, List.setIfInBounds_toArray, List.set_cons_zero, List.set_cons_succ])
          refine wpAnyH_take (i := 17) (oi := ({ dst := some 5, op := Op.assign (Operand.tmp 28), type := 29, pos := "runs.go:81", after := #[{ on := 15, ground := Ground.data }, { on := 16, ground := Ground.chain }, { on := 0, ground := Ground.phase }, { on := 1, ground := Ground.phase }, { on := 2, ground := Ground.phase }, { on := 3, ground := Ground.phase }, { on := 4, ground := Ground.phase }, { on := 5, ground := Ground.phase }, { on := 6, ground := Ground.phase }, { on := 7, ground := Ground.phase }, { on := 8, ground := Ground.phase }, { on := 9, ground := Ground.phase }, { on := 10, ground := Ground.phase }, { on := 11, ground := Ground.phase }, { on := 12, ground := Ground.phase }, { on := 13, ground := Ground.phase }, { on := 14, ground := Ground.phase }, { on := 15, ground := Ground.phase }, { on := 16, ground := Ground.phase }], guard := none } : Oper)) (v := ?_) rfl (by kernel_rfl) (by kernel_rfl) (by kernel_rfl) (fun _ _ _ h => h) (Or.inl ⟨by rfl, ?_⟩) (by assumption) ?_
          rotate_left
          · (intro w hSw; (try dsimp only at hSw); go_simp) <;> with_reducible rfl
          (try simp only [Act.put, List.setIfInBounds_toArray, List.set_cons_zero, List.set_cons_succ])
          refine wpAnyH_take (i := 18) (oi := ({ dst := some 6, op := Op.assign (Operand.const (Value.bool true)), type := 4, pos := "runs.go:81", after := #[{ on := 17, ground := Ground.chain }, { on := 0, ground := Ground.phase }, { on := 1, ground := Ground.phase }, { on := 2, ground := Ground.phase }, { on := 3, ground := Ground.phase }, { on := 4, ground := Ground.phase }, { on := 5, ground := Ground.phase }, { on := 6, ground := Ground.phase }, { on := 7, ground := Ground.phase }, { on := 8, ground := Ground.phase }, { on := 9, ground := Ground.phase }, { on := 10, ground := Ground.phase }, { on := 11, ground := Ground.phase }, { on := 12, ground := Ground.phase }, { on := 13, ground := Ground.phase }, { on := 14, ground := Ground.phase }, { on := 15, ground := Ground.phase }, { on := 16, ground := Ground.phase }, { on := 17, ground := Ground.phase }], guard := none } : Oper)) (v := ?_) rfl (by kernel_rfl) (by kernel_rfl) (by kernel_rfl) (fun _ _ _ h => h) (Or.inl ⟨by rfl, ?_⟩) (by assumption) ?_
          rotate_left
          · (intro w hSw; (try dsimp only at hSw); go_simp) <;> with_reducible rfl
          (try simp only [Act.put, List.setIfInBounds_toArray, List.set_cons_zero, List.set_cons_succ])
          refine wpAnyH_done (by kernel_rfl) ?_ _
          refine NoPanic.normal ?_
          go_wp2_with fail
          refine bodyPost_ret (v := .tuple #[.int .i64 p, .slice A4 (z - 1) c4, .bool true]) ?_ rfl ?_
          · simp [results, go_sem]
          · refine ⟨A4, _, c4, by rw [HR.out.1, HR.out.2.2], ?_, by rw [HR.out.2.1, HE.out]; exact hr4, hB4, hf4.mono hB3.size⟩
            have := HZ.out
            rw [HR.out.2.1, HE.out, List.length_append, List.length_take, List.length_drop]
            omega
        exact AllReadyH.nil
      exact AllReadyH.nil
    · have HE := Lib.hid (show M.left l k n = l.take k ++ (⟨p + n, m - n⟩ :: l.drop (k + 1)) by rw [HL.out, if_neg t]; rfl)
      have hrest := fun W => rest_any W p m n (p + n) (m - n) (by rw [if_neg t]) rfl (by have := HK.out; omega) (by have := HK.out; omega) (by omega) (by have := HK.out; omega)
      have HRS := Lib.hid hrest
      have HMN := Lib.hid (show m - n ≠ 0 by omega)
      clear t hrest HL
      refine wp_region_noPanic ?_
      refine wp_region_held_drew (S := fun W => W.cell? ⟨bl, o + k * 2, none⟩ = some (.int .i64 p) ∧ W.cell? ⟨bl, o + k * 2 + 1, none⟩ = some (.int .i64 m)) (by kernel_rfl) (HS.out _ B2.out.drew) (fun hHeld => ?_)
      refine wpAnyH_take (i := 0) (oi := ({ dst := some 13, op := Op.move (Operand.tmp 0), type := 29, pos := "runs.go:81", after := #[], guard := none } : Oper)) (v := ?_) rfl (by kernel_rfl) (by kernel_rfl) (by kernel_rfl) (fun _ _ _ h => h) (Or.inl ⟨by rfl, ?_⟩) (by assumption) ?_
      rotate_left
      · (intro w hSw; (try dsimp only at hSw); go_simp) <;> with_reducible rfl
      (try simp only [Act.put, List.setIfInBounds_toArray, List.set_cons_zero, List.set_cons_succ])
      refine wpAnyH_take (i := 1) (oi := ({ dst := some 14, op := Op.move (Operand.tmp 7), type := 3, pos := "runs.go:81", after := #[], guard := none } : Oper)) (v := ?_) rfl (by kernel_rfl) (by kernel_rfl) (by kernel_rfl) (fun _ _ _ h => h) (Or.inl ⟨by rfl, ?_⟩) (by assumption) ?_
      rotate_left
      · (intro w hSw; (try dsimp only at hSw); go_simp) <;> with_reducible rfl
      (try simp only [Act.put, List.setIfInBounds_toArray, List.set_cons_zero, List.set_cons_succ])
      refine wpAnyH_take (i := 2) (oi := ({ dst := some 15, op := Op.indexAddr 29 (Operand.tmp 13) (Operand.tmp 14), type := 0, pos := "runs.go:81", after := #[{ on := 0, ground := Ground.data }, { on := 1, ground := Ground.data }], guard := none } : Oper)) (v := ?_) rfl (by kernel_rfl) (by kernel_rfl) (by kernel_rfl) (fun _ _ _ h => h) (Or.inl ⟨by rfl, ?_⟩) (by assumption) ?_
      rotate_left
      · (intro w hSw; (try dsimp only at hSw); go_simp) <;> with_reducible rfl
      (try simp only [Act.put, List.setIfInBounds_toArray, List.set_cons_zero, List.set_cons_succ])
      refine wpAnyH_take (i := 3) (oi := ({ dst := some 16, op := Op.fieldAddr 34 (Operand.tmp 15) 0, type := 0, pos := "runs.go:81", after := #[{ on := 2, ground := Ground.data }], guard := none } : Oper)) (v := ?_) rfl (by kernel_rfl) (by kernel_rfl) (by kernel_rfl) (fun _ _ _ h => h) (Or.inl ⟨by rfl, ?_⟩) (by assumption) ?_
      rotate_left
      · (intro w hSw; (try dsimp only at hSw); go_simp) <;> with_reducible rfl
      (try simp only [Act.put, List.setIfInBounds_toArray, List.set_cons_zero, List.set_cons_succ])
      refine wpAnyH_take (i := 4) (oi := ({ dst := some 17, op := Op.load 3 (Operand.tmp 16), type := 3, pos := "runs.go:81", after := #[{ on := 3, ground := Ground.data }], guard := none } : Oper)) (v := ?_) rfl (by kernel_rfl) (by kernel_rfl) (by kernel_rfl) (fun _ _ _ h => h) (Or.inl ⟨by rfl, ?_⟩) (by assumption) ?_
      rotate_left
      · (intro w hSw; (try dsimp only at hSw); go_simp) <;> with_reducible rfl
      (try simp only [Act.put, List.setIfInBounds_toArray, List.set_cons_zero, List.set_cons_succ])
      refine wpAnyH_take (i := 5) (oi := ({ dst := some 18, op := Op.move (Operand.tmp 0), type := 29, pos := "runs.go:81", after := #[], guard := none } : Oper)) (v := ?_) rfl (by kernel_rfl) (by kernel_rfl) (by kernel_rfl) (fun _ _ _ h => h) (Or.inl ⟨by rfl, ?_⟩) (by assumption) ?_
      rotate_left
      · (intro w hSw; (try dsimp only at hSw); go_simp) <;> with_reducible rfl
      (try simp only [Act.put, List.setIfInBounds_toArray, List.set_cons_zero, List.set_cons_succ])
      refine wpAnyH_take (i := 6) (oi := ({ dst := some 19, op := Op.move (Operand.tmp 7), type := 3, pos := "runs.go:81", after := #[], guard := none } : Oper)) (v := ?_) rfl (by kernel_rfl) (by kernel_rfl) (by kernel_rfl) (fun _ _ _ h => h) (Or.inl ⟨by rfl, ?_⟩) (by assumption) ?_
      rotate_left
      · (intro w hSw; (try dsimp only at hSw); go_simp) <;> with_reducible rfl
      (try simp only [Act.put, List.setIfInBounds_toArray, List.set_cons_zero, List.set_cons_succ])
      refine wpAnyH_take (i := 7) (oi := ({ dst := some 20, op := Op.move (Operand.tmp 7), type := 3, pos := "runs.go:81", after := #[], guard := none } : Oper)) (v := ?_) rfl (by kernel_rfl) (by kernel_rfl) (by kernel_rfl) (fun _ _ _ h => h) (Or.inl ⟨by rfl, ?_⟩) (by assumption) ?_
      rotate_left
      · (intro w hSw; (try dsimp only at hSw); go_simp) <;> with_reducible rfl
      (try simp only [Act.put, List.setIfInBounds_toArray, List.set_cons_zero, List.set_cons_succ])
      refine wpAnyH_take (i := 8) (oi := ({ dst := some 21, op := Op.binOp BinOp.add 3 (Operand.tmp 20) (Operand.const (Value.int IntKind.i64 1)) 3, type := 3, pos := "runs.go:81", after := #[{ on := 7, ground := Ground.data }], guard := none } : Oper)) (v := ?_) rfl (by kernel_rfl) (by kernel_rfl) (by kernel_rfl) (fun _ _ _ h => h) (Or.inl ⟨by rfl, ?_⟩) (by assumption) ?_
      rotate_left
      · (intro w hSw; (try dsimp only at hSw); go_simp) <;> with_reducible rfl
      (try simp only [Act.put, List.setIfInBounds_toArray, List.set_cons_zero, List.set_cons_succ])
      refine wpAnyH_take (i := 9) (oi := ({ dst := some 22, op := Op.move (Operand.tmp 0), type := 29, pos := "runs.go:81", after := #[], guard := none } : Oper)) (v := ?_) rfl (by kernel_rfl) (by kernel_rfl) (by kernel_rfl) (fun _ _ _ h => h) (Or.inl ⟨by rfl, ?_⟩) (by assumption) ?_
      rotate_left
      · (intro w hSw; (try dsimp only at hSw); go_simp) <;> with_reducible rfl
      (try simp only [Act.put, List.setIfInBounds_toArray, List.set_cons_zero, List.set_cons_succ])
      refine wpAnyH_take (i := 10) (oi := ({ dst := some 23, op := Op.move (Operand.tmp 7), type := 3, pos := "runs.go:81", after := #[], guard := none } : Oper)) (v := ?_) rfl (by kernel_rfl) (by kernel_rfl) (by kernel_rfl) (fun _ _ _ h => h) (Or.inl ⟨by rfl, ?_⟩) (by assumption) ?_
      rotate_left
      · (intro w hSw; (try dsimp only at hSw); go_simp) <;> with_reducible rfl
      (try simp only [Act.put, List.setIfInBounds_toArray, List.set_cons_zero, List.set_cons_succ])
      refine wpAnyH_take (i := 11) (oi := ({ dst := some 24, op := Op.indexAddr 29 (Operand.tmp 22) (Operand.tmp 23), type := 0, pos := "runs.go:81", after := #[{ on := 9, ground := Ground.data }, { on := 10, ground := Ground.data }], guard := none } : Oper)) (v := ?_) rfl (by kernel_rfl) (by kernel_rfl) (by kernel_rfl) (fun _ _ _ h => h) (Or.inl ⟨by rfl, ?_⟩) (by assumption) ?_
      rotate_left
      · (intro w hSw; (try dsimp only at hSw); go_simp) <;> with_reducible rfl
      (try simp only [Act.put, List.setIfInBounds_toArray, List.set_cons_zero, List.set_cons_succ])
      refine wpAnyH_take (i := 12) (oi := ({ dst := some 25, op := Op.load 34 (Operand.tmp 24), type := 34, pos := "runs.go:81", after := #[{ on := 11, ground := Ground.data }], guard := none } : Oper)) (v := ?_) rfl (by kernel_rfl) (by kernel_rfl) (by kernel_rfl) (fun _ _ _ h => h) (Or.inl ⟨by rfl, ?_⟩) (by assumption) ?_
      rotate_left
      · (intro w hSw; (try dsimp only at hSw); go_simp) <;> with_reducible rfl
      (try simp only [Act.put, List.setIfInBounds_toArray, List.set_cons_zero, List.set_cons_succ])
      refine wpAnyH_take (i := 13) (oi := ({ dst := some 26, op := Op.move (Operand.tmp 1), type := 3, pos := "runs.go:81", after := #[], guard := none } : Oper)) (v := ?_) rfl (by kernel_rfl) (by kernel_rfl) (by kernel_rfl) (fun _ _ _ h => h) (Or.inl ⟨by rfl, ?_⟩) (by assumption) ?_
      rotate_left
      · (intro w hSw; (try dsimp only at hSw); go_simp) <;> with_reducible rfl
      (try simp only [Act.put, List.setIfInBounds_toArray, List.set_cons_zero, List.set_cons_succ])
      refine wpAnyH_ready (rs := [14]) (by kernel_rfl) (by simp) ?_
      refine AllReadyH.cons (o := ({ dst := some 27, op := Op.call { callee := Callee.value (Operand.func 83), args := #[Operand.tmp 25, Operand.tmp 26], argTypes := #[34, 3] }, type := 34, pos := "runs.go:81", after := #[{ on := 12, ground := Ground.data }, { on := 13, ground := Ground.data }], guard := none } : Oper)) rfl (fun K hK => ?_) ?_
      · go_simp
        refine (HRS.out _).mono ?_
        rintro e w3 ⟨rfl, hb3⟩
        have hB3 : Below w.heap.size w w3 := below_call B2.out (below_drewL hb3)
        go_wp2_with fail
        refine hK.out _ _ ?_ (fun hHeld => ?_)
        · exact HS.out _ hB3
        clear hK K
        (try simp only [Act.put, List.setIfInBounds_toArray, List.set_cons_zero, List.set_cons_succ])
        refine wpAnyH_ready (rs := [15]) (by kernel_rfl) (by simp) ?_
        refine AllReadyH.cons (o := ({ dst := some 28, op := Op.call { callee := Callee.value (Operand.func 77), args := #[Operand.tmp 18, Operand.tmp 19, Operand.tmp 21, Operand.tmp 27], argTypes := #[29, 3, 3, 34] }, type := 29, pos := "runs.go:81", after := #[{ on := 5, ground := Ground.data }, { on := 6, ground := Ground.data }, { on := 8, ground := Ground.data }, { on := 14, ground := Ground.data }, { on := 14, ground := Ground.chain }], guard := none } : Oper)) rfl (fun K hK => ?_) ?_
        · go_simp
          refine (changed_put w3 (some ⟨bl, o, none⟩) l z c k (k + 1) (k + 1 + (z - (k + 1))) (p + n) (m - n) HZ.out (HA.out.below hB3) hl (by omega) (by omega) rfl HMN.out).mono ?_
          rintro e w4 ⟨A4, c4, rfl, hr4, hb4, hf4⟩
          have hB4 : Below w.heap.size w w4 := below_call hB3 hb4
          go_wp2_with fail
          refine hK.out _ _ ?_ (fun hHeld => ?_)
          · exact HS.out _ hB4
          clear hK K
          (try simp only [Act.put, List.setIfInBounds_toArray, List.set_cons_zero, List.set_cons_succ])
          refine wpAnyH_take (i := 16) (oi := ({ dst := some 4, op := Op.assign (Operand.tmp 17), type := 3, pos := "runs.go:81", after := #[{ on := 4, ground := Ground.data }, { on := 15, ground := Ground.chain }, { on := 0, ground := Ground.phase }, { on := 1, ground := Ground.phase }, { on := 2, ground := Ground.phase }, { on := 3, ground := Ground.phase }, { on := 4, ground := Ground.phase }, { on := 5, ground := Ground.textOnly Departure.lateStores }, { on := 6, ground := Ground.textOnly Departure.lateStores }, { on := 7, ground := Ground.textOnly Departure.lateStores }, { on := 8, ground := Ground.textOnly Departure.lateStores }, { on := 9, ground := Ground.textOnly Departure.lateStores }, { on := 10, ground := Ground.textOnly Departure.lateStores }, { on := 11, ground := Ground.textOnly Departure.lateStores }, { on := 12, ground := Ground.textOnly Departure.lateStores }, { on := 13, ground := Ground.textOnly Departure.lateStores }, { on := 14, ground := Ground.textOnly Departure.lateStoresUnsure }, { on := 15, ground := Ground.textOnly Departure.lateStoresUnsure }], guard := none } : Oper)) (v := ?_) rfl (by kernel_rfl) (by kernel_rfl) (by kernel_rfl) (fun _ _ _ h => h) (Or.inl ⟨by rfl, ?_⟩) (by assumption) ?_
          rotate_left
          · (intro w hSw; (try dsimp only at hSw); go_simp) <;> with_reducible rfl
          (try simp only [Act.put, List.setIfInBounds_toArray, List.set_cons_zero, List.set_cons_succ])
          refine wpAnyH_take (i := 17) (oi := ({ dst := some 5, op := Op.assign (Operand.tmp 28), type := 29, pos := "runs.go:81", after := #[{ on := 15, ground := Ground.data }, { on := 16, ground := Ground.chain }, { on := 0, ground := Ground.phase }, { on := 1, ground := Ground.phase }, { on := 2, ground := Ground.phase }, { on := 3, ground := Ground.phase }, { on := 4, ground := Ground.phase }, { on := 5, ground := Ground.phase }, { on := 6, ground := Ground.phase }, { on := 7, ground := Ground.phase }, { on := 8, ground := Ground.phase }, { on := 9, ground := Ground.phase }, { on := 10, ground := Ground.phase }, { on := 11, ground := Ground.phase }, { on := 12, ground := Ground.phase }, { on := 13, ground := Ground.phase }, { on := 14, ground := Ground.phase }, { on := 15, ground := Ground.phase }, { on := 16, ground := Ground.phase }], guard := none } : Oper)) (v := ?_) rfl (by kernel_rfl) (by kernel_rfl) (by kernel_rfl) (fun _ _ _ h => h) (Or.inl ⟨by rfl, ?_⟩) (by assumption) ?_
          rotate_left
          · (intro w hSw; (try dsimp only at hSw); go_simp) <;> with_reducible rfl
          (try simp only [Act.put, List.setIfInBounds_toArray, List.set_cons_zero, List.set_cons_succ])
          refine wpAnyH_take (i := 18) (oi := ({ dst := some 6, op := Op.assign (Operand.const (Value.bool true)), type := 4, pos := "runs.go:81", after := #[{ on := 17, ground := Ground.chain }, { on := 0, ground := Ground.phase }, { on := 1, ground := Ground.phase }, { on := 2, ground := Ground.phase }, { on := 3, ground := Ground.phase }, { on := 4, ground := Ground.phase }, { on := 5, ground := Ground.phase }, { on := 6, ground := Ground.phase }, { on := 7, ground := Ground.phase }, { on := 8, ground := Ground.phase }, { on := 9, ground := Ground.phase }, { on := 10, ground := Ground.phase }, { on := 11, ground := Ground.phase }, { on := 12, ground := Ground.phase }, { on := 13, ground := Ground.phase }, { on := 14, ground := Ground.phase }, { on := 15, ground := Ground.phase }, { on := 16, ground := Ground.phase }, { on := 17, ground := Ground.phase }], guard := none } : Oper)) (v := ?_) rfl (by kernel_rfl) (by kernel_rfl) (by kernel_rfl) (fun _ _ _ h => h) (Or.inl ⟨by rfl, ?_⟩) (by assumption) ?_
          rotate_left
          · (intro w hSw; (try dsimp only at hSw); go_simp) <;> with_reducible rfl
          (try simp only [Act.put, List.setIfInBounds_toArray, List.set_cons_zero, List.set_cons_succ])
          refine wpAnyH_done (by kernel_rfl) ?_ _
          refine NoPanic.normal ?_
          go_wp2_with fail
          refine bodyPost_ret (v := .tuple #[.int .i64 p, .slice A4 (k + 1 + (z - (k + 1))) c4, .bool true]) ?_ rfl ?_
          · simp [results, go_sem]
          · refine ⟨A4, _, c4, by rw [HR.out.1, HR.out.2.2], ?_, by rw [HR.out.2.1, HE.out]; exact hr4, hB4, hf4.mono hB3.size⟩
            have := HZ.out
            rw [HR.out.2.1, HE.out, List.length_append, List.length_take, List.length_cons, List.length_drop]
            omega
        exact AllReadyH.nil
      exact AllReadyH.nil
end Go.Proofs.Ytmagdhcpbofkbaa
