/-
  slices.Replace of runs by one run.
-/
import Derived.Test.YtloiomfbmabfbaaIns5
namespace Go.Proofs.Ytloiomfbmabfbaa
open Go.ChangeShapes Go.WideShapes Go.ChangeAt Go.RowKit Go.Deep
set_option linter.unusedVariables false
set_option maxRecDepth 20000

theorem insert_any (w : World) (B n c vb i : Nat) (A : Option Addr) (l : List M.R) (p q : Int) (hm : Mine w B A l c) (hn : n = l.length) (hn4 : n ≤ 4000000000) (hBw : B ≤ w.heap.size) (hi : i ≤ n) (hv : Blk w vb [.int .i64 p, .int .i64 q]) (hne : ∀ b, A = some b → vb ≠ b.block) :
    Calls Try.prog 45 #[.slice A n c, .int .i64 (i : Int), .slice (some ⟨vb, 0, none⟩) 1 1] w (Got w B (n + 1) (l.take i ++ (⟨p, q⟩ :: l.drop i))) := by
  rcases Nat.lt_or_ge i n with h | h
  · rcases hm with ⟨rfl, rfl, rfl⟩ | ⟨g, cs, rfl, hB, hb, h1, h2, h3, h4⟩
    · simp at hn; omega
    · subst hn
      have hne' : vb ≠ g := hne _ rfl
      rcases Nat.lt_or_ge l.length c with hr | hr
      · exact insert_room w B l.length c vb g i cs l p q hb h3 rfl h2 h4 h hr hB hv hne'
      · obtain rfl : c = l.length := by omega
        exact insert_grow w B l.length vb g i cs l p q hb h3 rfl hn4 h4 h hB hBw hv hne'
  · obtain rfl : i = n := by omega
    rw [show l.take i = l by rw [hn]; exact List.take_length, show l.drop i = [] by rw [hn]; exact List.drop_length]
    exact insert_end w B i c vb A l p q hm hn hn4 hBw hv hne

/-- Runs from i up to j are gone, and a run stands there. -/
theorem rep_list {cs : List Value} {l : List M.R} {n i j : Nat} {p q : Int} (hcs : n * 2 ≤ cs.length) (hn : n = l.length) (hl : cs.take (n * 2) = rc l) (hi : i < j) (hj : j ≤ n) :
    (splice (splice cs (i * 2) [.int .i64 p, .int .i64 q]) ((i + 1) * 2) (rc (l.drop j))).take ((i + 1 + (n - j)) * 2) = rc (l.take i ++ (⟨p, q⟩ :: l.drop j)) := by
  have hd : (rc (l.drop j)).length = (n - j) * 2 := by rw [rc_length, List.length_drop, hn]
  have e : i * 2 + [Value.int .i64 p, .int .i64 q].length = (i + 1) * 2 := by simp; omega
  have e0 : cs.take (i * 2) = rc (l.take i) := by rw [rc_take, ← hl, List.take_take, Nat.min_eq_left (by omega)]
  have e1 : (splice cs (i * 2) [.int .i64 p, .int .i64 q]).take ((i + 1) * 2) = rc (l.take i) ++ [.int .i64 p, .int .i64 q] := by
    rw [← e, splice_take2 _ _ _ (by omega), e0]
  have hsl := splice_length cs (i * 2) [.int .i64 p, .int .i64 q] (by rw [e]; omega)
  have h3 : (i + 1 + (n - j)) * 2 = (i + 1) * 2 + (rc (l.drop j)).length := by omega
  rw [h3, splice_take2 _ _ _ (by rw [hsl]; omega), e1, rc_append, rc_cons]
  simp

set_option maxHeartbeats 1000000 in
theorem replace_end (w : World) (B n c vb g i j : Nat) (cs : List Value) (l : List M.R) (p q : Int) (hb : Blk w g cs) (hcs : cs.length = c * 2) (hn : n = l.length) (hc : c ≤ maxLen) (hnc : n ≤ c) (hl : cs.take (n * 2) = rc l) (hij : i < j) (hB : B ≤ g) (hv : Blk w vb [.int .i64 p, .int .i64 q]) (hne : vb ≠ g) (hj : j = n) :
    Calls Try.prog 44 #[.slice (some ⟨g, 0, none⟩) n c, .int .i64 (i : Int), .int .i64 (n : Int), .slice (some ⟨vb, 0, none⟩) 1 1] w (Got w B (i + 1) (l.take i ++ [⟨p, q⟩])) := by
  unfold maxLen at hc
  subst hj
  have hin : i ≤ j := by omega
  have hic : i ≤ c := by omega
  have hz1 : ¬ ((i : Int) = (j : Int)) := by omega
  obtain ⟨X, hX⟩ : ∃ X, X = splice cs (i * 2) [.int .i64 p, .int .i64 q] := ⟨_, rfl⟩
  have hfit : i * 2 + [Value.int .i64 p, .int .i64 q].length ≤ cs.length := by simp; omega
  have hXl : X.length = c * 2 := by rw [hX, splice_length _ _ _ hfit, hcs]
  have b1 : Blk (w.setRow g X.toArray) g X := hb.set X
  have hap : ∀ ty, (Builtin.append_ #[26, 26] ty #[.slice (some ⟨g, 0, none⟩) i c, .slice (some ⟨vb, 0, none⟩) 1 1]).run Try.prog w = .ok (.slice (some ⟨g, 0, none⟩) (i + 1) c) (w.setRow g X.toArray) := fun ty => by
    rw [hX]
    exact run_room2 w ty g cs hb i c ⟨vb, 0, none⟩ 1 1 [.int .i64 p, .int .i64 q] rfl (by omega) (fun x v hx => by rw [Addr.add_lit, Nat.zero_add, hv.cell]; exact hx) hfit (by intro u hu; simp at hu; rcases hu with rfl | rfl <;> rfl)
  have hXt : X.take ((i + 1) * 2) = rc (l.take i ++ [⟨p, q⟩]) := by
    have e0 : cs.take (i * 2) = rc (l.take i) := by rw [rc_take, ← hl, List.take_take, Nat.min_eq_left (by omega)]
    have e : (i + 1) * 2 = i * 2 + [Value.int .i64 p, .int .i64 q].length := by simp; omega
    rw [hX, e, splice_take2 _ _ _ (by omega), e0, rc_append]
    rfl
  have hll : (l.take i ++ [(⟨p, q⟩ : M.R)]).length = i + 1 := by rw [List.length_append, List.length_take, List.length_cons, List.length_nil]; omega
  go_enter Try.func44, Try.ntmps44
  by_cases h1 : i + 1 < j
  · have hcl : ∀ ty mc, (Builtin.clear_ #[26] ty #[.slice (some ⟨g, (i + 1) * 2, none⟩) (j - (i + 1)) mc]).run Try.prog (w.setRow g X.toArray) = .ok (.tuple #[]) ((w.setRow g X.toArray).setRow g (splice X ((i + 1) * 2) (List.replicate ((j - (i + 1)) * 2) (.int .i64 0))).toArray) := fun ty mc =>
      run_clear2 _ ty g ((i + 1) * 2) X b1 (j - (i + 1)) mc (by omega) (by omega)
    have B2 := Lib.hid (show Runs ((w.setRow g X.toArray).setRow g (splice X ((i + 1) * 2) (List.replicate ((j - (i + 1)) * 2) (.int .i64 0))).toArray) (some ⟨g, 0, none⟩) (l.take i ++ [⟨p, q⟩]) ∧ Below B w ((w.setRow g X.toArray).setRow g (splice X ((i + 1) * 2) (List.replicate ((j - (i + 1)) * 2) (.int .i64 0))).toArray) from
      ⟨(b1.set _).runs (by rw [hll, splice_take _ _ _ _ (by simp; omega) (Nat.le_refl _), hXt]), below_setRow (below_setRow (Below.refl B w) hB _) hB _⟩)
    have hci : ¬ c = i + 1 := by omega
    have hij2 : (i : Int) + 1 ≤ (j : Int) := by omega
    clear hn hX hXl hXt hfit b1 hb hcs hl hv hne hll
    go_wp2_with (at_builtin; refine Lib.wpList_append_run _ rfl _ _ 26 26 rfl (.slice (some ⟨g, 0, none⟩) i c) (.slice (some ⟨vb, 0, none⟩) 1 1) rfl rfl _ _ (hap _) ?_)
    go_ret
    exact ⟨_, _, rfl, B2.out.1, B2.out.2, fresh_at hB⟩
  · have B2 := Lib.hid (show Runs (w.setRow g X.toArray) (some ⟨g, 0, none⟩) (l.take i ++ [⟨p, q⟩]) ∧ Below B w (w.setRow g X.toArray) from ⟨b1.runs (by rw [hll, hXt]), below_setRow (Below.refl B w) hB _⟩)
    have hlt : ¬ ((i : Int) + 1 < (j : Int)) := by omega
    clear hn hX hXl hXt hfit b1 hb hcs hl hv hne hll
    go_wp2_with (at_builtin; refine Lib.wpList_append_run _ rfl _ _ 26 26 rfl (.slice (some ⟨g, 0, none⟩) i c) (.slice (some ⟨vb, 0, none⟩) 1 1) rfl rfl _ _ (hap _) ?_)
    go_ret
    exact ⟨_, _, rfl, B2.out.1, B2.out.2, fresh_at hB⟩

set_option maxHeartbeats 2000000 in
theorem replace_mid (w : World) (B n c vb g i j : Nat) (cs : List Value) (l : List M.R) (p q : Int) (hb : Blk w g cs) (hcs : cs.length = c * 2) (hn : n = l.length) (hc : c ≤ maxLen) (hnc : n ≤ c) (hl : cs.take (n * 2) = rc l) (hij : i < j) (hB : B ≤ g) (hv : Blk w vb [.int .i64 p, .int .i64 q]) (hne : vb ≠ g) (hj : j < n) (t : Nat) (ht : t = i + 1 + (n - j)) :
    Calls Try.prog 44 #[.slice (some ⟨g, 0, none⟩) n c, .int .i64 (i : Int), .int .i64 (j : Int), .slice (some ⟨vb, 0, none⟩) 1 1] w (Got w B t (l.take i ++ (⟨p, q⟩ :: l.drop j))) := by
  unfold maxLen at hc
  obtain ⟨m, hm⟩ : ∃ m, n - j = m := ⟨_, rfl⟩
  have hm2 := hm
  have hin : i ≤ n := by omega
  have hic : i ≤ c := by omega
  have hjn : j ≤ n := by omega
  have hij' : i ≤ j := by omega
  have hjc : j ≤ c := by omega
  have htc : t ≤ c := by omega
  have htn : t ≤ n := by omega
  have hit : i ≤ t := by omega
  have hci : ¬ c = i := by omega
  have hci1 : ¬ c = i + 1 := by omega
  have hcj : ¬ c = j := by omega
  have hz1 : ¬ ((i : Int) = (j : Int)) := by omega
  have hz2 : ¬ ((j : Int) = (n : Int)) := by omega
  have ht1 : t - (i + 1) = m := by omega
  have hle : (i : Int) + 1 ≤ (j : Int) := by omega
  have hwr : IntKind.i64.wrap ((i : Int) + 1) = (i : Int) + 1 := by rw [IntKind.wrap_i64]; omega
  have hw2 : IntKind.i64.wrap ((i : Int) + 1 + (m : Int)) = (t : Int) := by rw [IntKind.wrap_i64]; omega
  have hw0 : (0 : Int) ≤ (i : Int) + 1 := by omega
  have hw1' : (i : Int) + 1 ≤ (t : Int) := by omega
  have hw3 : ((i : Int) + 1).toNat = i + 1 := by omega
  have hdl : (rc (l.drop j)).length = m * 2 := by rw [rc_length, List.length_drop, ← hn, hm]
  obtain ⟨X, hX⟩ : ∃ X, X = splice cs (i * 2) [.int .i64 p, .int .i64 q] := ⟨_, rfl⟩
  have hfit : i * 2 + [Value.int .i64 p, .int .i64 q].length ≤ cs.length := by simp; omega
  have hXl : X.length = c * 2 := by rw [hX, splice_length _ _ _ hfit, hcs]
  obtain ⟨Y, hY⟩ : ∃ Y, Y = splice X ((i + 1) * 2) (rc (l.drop j)) := ⟨_, rfl⟩
  have hYl : Y.length = c * 2 := by rw [hY, splice_length _ _ _ (by omega), hXl]
  have b1 : Blk (w.drew.setRow g X.toArray) g X := hb.drew.set X
  have b2 : Blk ((w.drew.setRow g X.toArray).drew.setRow g Y.toArray) g Y := b1.drew.set Y
  have hYt : Y.take (t * 2) = rc (l.take i ++ (⟨p, q⟩ :: l.drop j)) := by
    rw [hY, hX, ht]
    exact rep_list (by omega) hn hl hij (by omega)
  have hll : (l.take i ++ (⟨p, q⟩ :: l.drop j)).length = t := by rw [List.length_append, List.length_take, List.length_cons, List.length_drop]; omega
  have cp1 : ∀ ty dc, (Builtin.copy_ #[26, 26] ty #[.slice (some ⟨g, i * 2, none⟩) (t - i) dc, .slice (some ⟨vb, 0, none⟩) 1 1]).run Try.prog w.drew = .ok (goInt 1) (w.drew.setRow g X.toArray) := fun ty dc => by
    rw [hX]
    exact run_copy2 _ ty g (i * 2) cs hb.drew (t - i) dc ⟨vb, 0, none⟩ 1 1 1 [.int .i64 p, .int .i64 q] (by simp only [Nat.min_def]; split <;> omega) rfl (fun x v hx => by rw [Addr.add_lit, Nat.zero_add, hv.drew.cell]; exact hx) hfit (by intro u hu; simp at hu; rcases hu with rfl | rfl <;> rfl)
  have cp2 : ∀ ty dc sc, (Builtin.copy_ #[26, 26] ty #[.slice (some ⟨g, (i + 1) * 2, none⟩) m dc, .slice (some ⟨g, j * 2, none⟩) m sc]).run Try.prog (w.drew.setRow g X.toArray).drew = .ok (goInt (m : Int)) ((w.drew.setRow g X.toArray).drew.setRow g Y.toArray) := fun ty dc sc => by
    rw [hY]
    exact run_copy2 _ ty g ((i + 1) * 2) X b1.drew m dc ⟨g, j * 2, none⟩ m sc m (rc (l.drop j)) (by simp only [Nat.min_def]; split <;> omega) hdl (fun x v hx => by
      rw [Addr.add_lit, b1.drew.cell]
      rw [rc_drop, List.getElem?_drop, ← hl, List.getElem?_take] at hx
      split at hx
      · rw [← hx, hX, splice, List.append_assoc, List.getElem?_append_right (by simp; omega), List.getElem?_append_right (by simp; omega), List.getElem?_drop]
        congr 1
        simp
        omega
      · cases hx) (by omega) (rc_one _)
  have ht2 := ht
  clear ht
  by_cases h1 : j = i + 1
  · skip
    have hcl : ∀ ty A mc, (Builtin.clear_ #[26] ty #[.slice A 0 mc]).run Try.prog ((w.drew.setRow g X.toArray).drew.setRow g Y.toArray) = .ok (.tuple #[]) ((w.drew.setRow g X.toArray).drew.setRow g Y.toArray) := fun ty A mc => run_clear0 _ ty A mc
    have B2 := Lib.hid (show Runs ((w.drew.setRow g X.toArray).drew.setRow g Y.toArray) (some ⟨g, 0, none⟩) (l.take i ++ (⟨p, q⟩ :: l.drop j)) ∧ Below B w ((w.drew.setRow g X.toArray).drew.setRow g Y.toArray) from ⟨b2.runs (by rw [hll, hYt]), below_setRow (below_setRow (Below.refl B w).drew hB _).drew hB _⟩)
    have hnt : n - t = 0 := by omega
    clear h1 ht2 hn hX hY hXl hYl hYt hfit b1 b2 hb hcs hl hv hne hll hdl hm2
    go_enter Try.func44, Try.ntmps44
    go_wp2_with fail
    refine wp_region_noPanic ?_
    refine wp_region_held_drew (S := fun _ => True) (by kernel_rfl) (trivial) (fun hHeld => ?_)
    refine wpAnyH_take (i := 0) (oi := ({ dst := some 45, op := Op.move (Operand.tmp 0), type := 26, pos := "slices.go:276", after := #[], guard := none } : Oper)) (v := ?_) rfl (by kernel_rfl) (by kernel_rfl) (by kernel_rfl) (fun _ _ _ h => h) (Or.inl ⟨by rfl, ?_⟩) (by assumption) ?_
    rotate_left
    · (intro w hSw; (try dsimp only at hSw); go_simp) <;> with_reducible rfl
    (try simp only [Act.put, List.setIfInBounds_toArray, List.set_cons_zero, List.set_cons_succ])
    refine wpAnyH_take (i := 1) (oi := ({ dst := some 46, op := Op.move (Operand.tmp 1), type := 3, pos := "slices.go:276", after := #[], guard := none } : Oper)) (v := ?_) rfl (by kernel_rfl) (by kernel_rfl) (by kernel_rfl) (fun _ _ _ h => h) (Or.inl ⟨by rfl, ?_⟩) (by assumption) ?_
    rotate_left
    · (intro w hSw; (try dsimp only at hSw); go_simp) <;> with_reducible rfl
    (try simp only [Act.put, List.setIfInBounds_toArray, List.set_cons_zero, List.set_cons_succ])
    refine wpAnyH_take (i := 2) (oi := ({ dst := some 47, op := Op.slice 26 (Operand.tmp 45) none (some (Operand.tmp 46)) none, type := 26, pos := "slices.go:276", after := #[{ on := 0, ground := Ground.data }, { on := 1, ground := Ground.data }], guard := none } : Oper)) (v := ?_) rfl (by kernel_rfl) (by kernel_rfl) (by kernel_rfl) (fun _ _ _ h => h) (Or.inl ⟨by rfl, ?_⟩) (by assumption) ?_
    rotate_left
    · (intro w hSw; (try dsimp only at hSw); go_simp) <;> with_reducible rfl
    (try simp only [Act.put, List.setIfInBounds_toArray, List.set_cons_zero, List.set_cons_succ])
    refine wpAnyH_take (i := 3) (oi := ({ dst := some 48, op := Op.call { callee := Callee.builtin Builtin.len, args := #[Operand.tmp 47], argTypes := #[26] }, type := 3, pos := "slices.go:276", after := #[{ on := 2, ground := Ground.data }], guard := none } : Oper)) (v := ?_) rfl (by kernel_rfl) (by kernel_rfl) (by kernel_rfl) (fun _ _ _ h => h) (Or.inl ⟨by rfl, ?_⟩) (by assumption) ?_
    rotate_left
    · (intro w hSw; (try dsimp only at hSw); go_simp) <;> with_reducible rfl
    (try simp only [Act.put, List.setIfInBounds_toArray, List.set_cons_zero, List.set_cons_succ])
    refine wpAnyH_take (i := 4) (oi := ({ dst := some 49, op := Op.move (Operand.tmp 3), type := 26, pos := "slices.go:276", after := #[], guard := none } : Oper)) (v := ?_) rfl (by kernel_rfl) (by kernel_rfl) (by kernel_rfl) (fun _ _ _ h => h) (Or.inl ⟨by rfl, ?_⟩) (by assumption) ?_
    rotate_left
    · (intro w hSw; (try dsimp only at hSw); go_simp) <;> with_reducible rfl
    (try simp only [Act.put, List.setIfInBounds_toArray, List.set_cons_zero, List.set_cons_succ])
    refine wpAnyH_take (i := 5) (oi := ({ dst := some 50, op := Op.call { callee := Callee.builtin Builtin.len, args := #[Operand.tmp 49], argTypes := #[26] }, type := 3, pos := "slices.go:276", after := #[{ on := 4, ground := Ground.data }], guard := none } : Oper)) (v := ?_) rfl (by kernel_rfl) (by kernel_rfl) (by kernel_rfl) (fun _ _ _ h => h) (Or.inl ⟨by rfl, ?_⟩) (by assumption) ?_
    rotate_left
    · (intro w hSw; (try dsimp only at hSw); go_simp) <;> with_reducible rfl
    (try simp only [Act.put, List.setIfInBounds_toArray, List.set_cons_zero, List.set_cons_succ])
    refine wpAnyH_take (i := 6) (oi := ({ dst := some 51, op := Op.binOp BinOp.add 3 (Operand.tmp 48) (Operand.tmp 50) 3, type := 3, pos := "slices.go:276", after := #[{ on := 3, ground := Ground.data }, { on := 5, ground := Ground.data }], guard := none } : Oper)) (v := ?_) rfl (by kernel_rfl) (by kernel_rfl) (by kernel_rfl) (fun _ _ _ h => h) (Or.inl ⟨by rfl, ?_⟩) (by assumption) ?_
    rotate_left
    · (intro w hSw; (try dsimp only at hSw); go_simp) <;> with_reducible rfl
    (try simp only [Act.put, List.setIfInBounds_toArray, List.set_cons_zero, List.set_cons_succ])
    refine wpAnyH_take (i := 7) (oi := ({ dst := some 52, op := Op.move (Operand.tmp 0), type := 26, pos := "slices.go:276", after := #[], guard := none } : Oper)) (v := ?_) rfl (by kernel_rfl) (by kernel_rfl) (by kernel_rfl) (fun _ _ _ h => h) (Or.inl ⟨by rfl, ?_⟩) (by assumption) ?_
    rotate_left
    · (intro w hSw; (try dsimp only at hSw); go_simp) <;> with_reducible rfl
    (try simp only [Act.put, List.setIfInBounds_toArray, List.set_cons_zero, List.set_cons_succ])
    refine wpAnyH_take (i := 8) (oi := ({ dst := some 53, op := Op.move (Operand.tmp 2), type := 3, pos := "slices.go:276", after := #[], guard := none } : Oper)) (v := ?_) rfl (by kernel_rfl) (by kernel_rfl) (by kernel_rfl) (fun _ _ _ h => h) (Or.inl ⟨by rfl, ?_⟩) (by assumption) ?_
    rotate_left
    · (intro w hSw; (try dsimp only at hSw); go_simp) <;> with_reducible rfl
    (try simp only [Act.put, List.setIfInBounds_toArray, List.set_cons_zero, List.set_cons_succ])
    refine wpAnyH_take (i := 9) (oi := ({ dst := some 54, op := Op.slice 26 (Operand.tmp 52) (some (Operand.tmp 53)) none none, type := 26, pos := "slices.go:276", after := #[{ on := 7, ground := Ground.data }, { on := 8, ground := Ground.data }], guard := none } : Oper)) (v := ?_) rfl (by kernel_rfl) (by kernel_rfl) (by kernel_rfl) (fun _ _ _ h => h) (Or.inl ⟨by rfl, ?_⟩) (by assumption) ?_
    rotate_left
    · (intro w hSw; (try dsimp only at hSw); go_simp) <;> with_reducible rfl
    (try simp only [Act.put, List.setIfInBounds_toArray, List.set_cons_zero, List.set_cons_succ])
    refine wpAnyH_take (i := 10) (oi := ({ dst := some 55, op := Op.call { callee := Callee.builtin Builtin.len, args := #[Operand.tmp 54], argTypes := #[26] }, type := 3, pos := "slices.go:276", after := #[{ on := 9, ground := Ground.data }], guard := none } : Oper)) (v := ?_) rfl (by kernel_rfl) (by kernel_rfl) (by kernel_rfl) (fun _ _ _ h => h) (Or.inl ⟨by rfl, ?_⟩) (by assumption) ?_
    rotate_left
    · (intro w hSw; (try dsimp only at hSw); go_simp) <;> with_reducible rfl
    (try simp only [Act.put, List.setIfInBounds_toArray, List.set_cons_zero, List.set_cons_succ])
    refine wpAnyH_take (i := 11) (oi := ({ dst := some 56, op := Op.binOp BinOp.add 3 (Operand.tmp 51) (Operand.tmp 55) 3, type := 3, pos := "slices.go:276", after := #[{ on := 6, ground := Ground.data }, { on := 10, ground := Ground.data }], guard := none } : Oper)) (v := ?_) rfl (by kernel_rfl) (by kernel_rfl) (by kernel_rfl) (fun _ _ _ h => h) (Or.inl ⟨by rfl, ?_⟩) (by assumption) ?_
    rotate_left
    · (intro w hSw; (try dsimp only at hSw); go_simp) <;> with_reducible rfl
    (try simp only [Act.put, List.setIfInBounds_toArray, List.set_cons_zero, List.set_cons_succ])
    refine wpAnyH_take (i := 12) (oi := ({ dst := some 10, op := Op.assign (Operand.tmp 56), type := 3, pos := "slices.go:276", after := #[{ on := 11, ground := Ground.data }, { on := 0, ground := Ground.phase }, { on := 1, ground := Ground.phase }, { on := 2, ground := Ground.phase }, { on := 3, ground := Ground.phase }, { on := 4, ground := Ground.phase }, { on := 5, ground := Ground.phase }, { on := 6, ground := Ground.phase }, { on := 7, ground := Ground.phase }, { on := 8, ground := Ground.phase }, { on := 9, ground := Ground.phase }, { on := 10, ground := Ground.phase }, { on := 11, ground := Ground.phase }], guard := none } : Oper)) (v := ?_) rfl (by kernel_rfl) (by kernel_rfl) (by kernel_rfl) (fun _ _ _ h => h) (Or.inl ⟨by rfl, ?_⟩) (by assumption) ?_
    rotate_left
    · (intro w hSw; (try dsimp only at hSw); go_simp) <;> with_reducible rfl
    (try simp only [Act.put, List.setIfInBounds_toArray, List.set_cons_zero, List.set_cons_succ])
    refine wpAnyH_done (by kernel_rfl) ?_ _
    refine NoPanic.normal ?_
    go_wp2_with (at_builtin; refine Lib.wpList_copy_run _ rfl _ _ 26 26 rfl _ _ rfl rfl (cp1 _ _) ?_)
    refine wp_region_noPanic ?_
    refine wp_region_held_drew (S := fun _ => True) (by kernel_rfl) (trivial) (fun hHeld => ?_)
    refine wpAnyH_take (i := 0) (oi := ({ dst := some 98, op := Op.move (Operand.tmp 12), type := 26, pos := "slices.go:290", after := #[], guard := none } : Oper)) (v := ?_) rfl (by kernel_rfl) (by kernel_rfl) (by kernel_rfl) (fun _ _ _ h => h) (Or.inl ⟨by rfl, ?_⟩) (by assumption) ?_
    rotate_left
    · (intro w hSw; (try dsimp only at hSw); go_simp) <;> with_reducible rfl
    (try simp only [Act.put, List.setIfInBounds_toArray, List.set_cons_zero, List.set_cons_succ])
    refine wpAnyH_take (i := 1) (oi := ({ dst := some 99, op := Op.move (Operand.tmp 1), type := 3, pos := "slices.go:290", after := #[], guard := none } : Oper)) (v := ?_) rfl (by kernel_rfl) (by kernel_rfl) (by kernel_rfl) (fun _ _ _ h => h) (Or.inl ⟨by rfl, ?_⟩) (by assumption) ?_
    rotate_left
    · (intro w hSw; (try dsimp only at hSw); go_simp) <;> with_reducible rfl
    (try simp only [Act.put, List.setIfInBounds_toArray, List.set_cons_zero, List.set_cons_succ])
    refine wpAnyH_take (i := 2) (oi := ({ dst := some 100, op := Op.move (Operand.tmp 3), type := 26, pos := "slices.go:290", after := #[], guard := none } : Oper)) (v := ?_) rfl (by kernel_rfl) (by kernel_rfl) (by kernel_rfl) (fun _ _ _ h => h) (Or.inl ⟨by rfl, ?_⟩) (by assumption) ?_
    rotate_left
    · (intro w hSw; (try dsimp only at hSw); go_simp) <;> with_reducible rfl
    (try simp only [Act.put, List.setIfInBounds_toArray, List.set_cons_zero, List.set_cons_succ])
    refine wpAnyH_take (i := 3) (oi := ({ dst := some 101, op := Op.call { callee := Callee.builtin Builtin.len, args := #[Operand.tmp 100], argTypes := #[26] }, type := 3, pos := "slices.go:290", after := #[{ on := 2, ground := Ground.data }], guard := none } : Oper)) (v := ?_) rfl (by kernel_rfl) (by kernel_rfl) (by kernel_rfl) (fun _ _ _ h => h) (Or.inl ⟨by rfl, ?_⟩) (by assumption) ?_
    rotate_left
    · (intro w hSw; (try dsimp only at hSw); go_simp) <;> with_reducible rfl
    (try simp only [Act.put, List.setIfInBounds_toArray, List.set_cons_zero, List.set_cons_succ])
    refine wpAnyH_take (i := 4) (oi := ({ dst := some 102, op := Op.binOp BinOp.add 3 (Operand.tmp 99) (Operand.tmp 101) 3, type := 3, pos := "slices.go:290", after := #[{ on := 1, ground := Ground.data }, { on := 3, ground := Ground.data }], guard := none } : Oper)) (v := ?_) rfl (by kernel_rfl) (by kernel_rfl) (by kernel_rfl) (fun _ _ _ h => h) (Or.inl ⟨by rfl, ?_⟩) (by assumption) ?_
    rotate_left
    · (intro w hSw; (try dsimp only at hSw); go_simp) <;> with_reducible rfl
    (try simp only [Act.put, List.setIfInBounds_toArray, List.set_cons_zero, List.set_cons_succ])
    refine wpAnyH_take (i := 5) (oi := ({ dst := some 103, op := Op.slice 26 (Operand.tmp 98) (some (Operand.tmp 102)) none none, type := 26, pos := "slices.go:290", after := #[{ on := 0, ground := Ground.data }, { on := 4, ground := Ground.data }], guard := none } : Oper)) (v := ?_) rfl (by kernel_rfl) (by kernel_rfl) (by kernel_rfl) (fun _ _ _ h => h) (Or.inl ⟨by rfl, ?_⟩) (by assumption) ?_
    rotate_left
    · (intro w hSw; (try dsimp only at hSw); go_simp) <;> with_reducible rfl
    (try simp only [Act.put, List.setIfInBounds_toArray, List.set_cons_zero, List.set_cons_succ])
    refine wpAnyH_take (i := 6) (oi := ({ dst := some 104, op := Op.move (Operand.tmp 0), type := 26, pos := "slices.go:290", after := #[], guard := none } : Oper)) (v := ?_) rfl (by kernel_rfl) (by kernel_rfl) (by kernel_rfl) (fun _ _ _ h => h) (Or.inl ⟨by rfl, ?_⟩) (by assumption) ?_
    rotate_left
    · (intro w hSw; (try dsimp only at hSw); go_simp) <;> with_reducible rfl
    (try simp only [Act.put, List.setIfInBounds_toArray, List.set_cons_zero, List.set_cons_succ])
    refine wpAnyH_take (i := 7) (oi := ({ dst := some 105, op := Op.move (Operand.tmp 2), type := 3, pos := "slices.go:290", after := #[], guard := none } : Oper)) (v := ?_) rfl (by kernel_rfl) (by kernel_rfl) (by kernel_rfl) (fun _ _ _ h => h) (Or.inl ⟨by rfl, ?_⟩) (by assumption) ?_
    rotate_left
    · (intro w hSw; (try dsimp only at hSw); go_simp) <;> with_reducible rfl
    (try simp only [Act.put, List.setIfInBounds_toArray, List.set_cons_zero, List.set_cons_succ])
    refine wpAnyH_take (i := 8) (oi := ({ dst := some 106, op := Op.slice 26 (Operand.tmp 104) (some (Operand.tmp 105)) none none, type := 26, pos := "slices.go:290", after := #[{ on := 6, ground := Ground.data }, { on := 7, ground := Ground.data }], guard := none } : Oper)) (v := ?_) rfl (by kernel_rfl) (by kernel_rfl) (by kernel_rfl) (fun _ _ _ h => h) (Or.inl ⟨by rfl, ?_⟩) (by assumption) ?_
    rotate_left
    · (intro w hSw; (try dsimp only at hSw); go_simp) <;> with_reducible rfl
    (try simp only [Act.put, List.setIfInBounds_toArray, List.set_cons_zero, List.set_cons_succ])
    refine wpAnyH_ready (rs := [9]) (by kernel_rfl) (by simp) ?_
    refine AllReadyH.cons (o := ({ dst := some 107, op := Op.call { callee := Callee.builtin Builtin.copy, args := #[Operand.tmp 103, Operand.tmp 106], argTypes := #[26, 26] }, type := 3, pos := "slices.go:290", after := #[{ on := 5, ground := Ground.data }, { on := 8, ground := Ground.data }], guard := none } : Oper)) rfl (fun K hK => ?_) ?_
    · skip
      rw [if_pos (by rfl)]
      refine Lib.wp_copy_run _ (.tmp 103) (.tmp 106) 26 26 rfl (.slice (some ⟨g, (i + 1) * 2, none⟩) m (c - (i + 1))) (.slice (some ⟨g, j * 2, none⟩) m (c - j)) (by simp [Act.eval]) (by simp [Act.eval]) (cp2 _ _ _) ?_
      refine hK.out _ _ ?_ (fun hHeld => ?_)
      · trivial
      clear hK K
      (try simp only [Act.put, List.setIfInBounds_toArray, List.set_cons_zero, List.set_cons_succ])
      refine wpAnyH_done (by kernel_rfl) ?_ _
      refine NoPanic.normal ?_
      go_wp2_with fail
      all_goals
        go_ret
        exact ⟨_, _, rfl, B2.out.1, B2.out.2, fresh_at hB⟩
    exact AllReadyH.nil
  · skip
    obtain ⟨d, hd⟩ : ∃ d, d = n - t := ⟨_, rfl⟩
    have hcl : ∀ ty mc, (Builtin.clear_ #[26] ty #[.slice (some ⟨g, t * 2, none⟩) d mc]).run Try.prog ((w.drew.setRow g X.toArray).drew.setRow g Y.toArray) = .ok (.tuple #[]) (((w.drew.setRow g X.toArray).drew.setRow g Y.toArray).setRow g (splice Y (t * 2) (List.replicate (d * 2) (.int .i64 0))).toArray) := fun ty mc =>
      run_clear2 _ ty g (t * 2) Y b2 d mc (by omega) (by omega)
    have B2 := Lib.hid (show Runs (((w.drew.setRow g X.toArray).drew.setRow g Y.toArray).setRow g (splice Y (t * 2) (List.replicate (d * 2) (.int .i64 0))).toArray) (some ⟨g, 0, none⟩) (l.take i ++ (⟨p, q⟩ :: l.drop j)) ∧ Below B w (((w.drew.setRow g X.toArray).drew.setRow g Y.toArray).setRow g (splice Y (t * 2) (List.replicate (d * 2) (.int .i64 0))).toArray) from
      ⟨(b2.set _).runs (by rw [hll, splice_take _ _ _ _ (by simp; omega) (Nat.le_refl _), hYt]), below_setRow (below_setRow (below_setRow (Below.refl B w).drew hB _).drew hB _) hB _⟩)
    have hnt : n - t = d := hd.symm
    have hct : ¬ c = t := by omega
    clear hd
    clear h1 ht2 hn hX hY hXl hYl hYt hfit b1 b2 hb hcs hl hv hne hll hdl hm2
    go_enter Try.func44, Try.ntmps44
    go_wp2_with fail
    refine wp_region_noPanic ?_
    refine wp_region_held_drew (S := fun _ => True) (by kernel_rfl) (trivial) (fun hHeld => ?_)
    refine wpAnyH_take (i := 0) (oi := ({ dst := some 45, op := Op.move (Operand.tmp 0), type := 26, pos := "slices.go:276", after := #[], guard := none } : Oper)) (v := ?_) rfl (by kernel_rfl) (by kernel_rfl) (by kernel_rfl) (fun _ _ _ h => h) (Or.inl ⟨by rfl, ?_⟩) (by assumption) ?_
    rotate_left
    · (intro w hSw; (try dsimp only at hSw); go_simp) <;> with_reducible rfl
    (try simp only [Act.put, List.setIfInBounds_toArray, List.set_cons_zero, List.set_cons_succ])
    refine wpAnyH_take (i := 1) (oi := ({ dst := some 46, op := Op.move (Operand.tmp 1), type := 3, pos := "slices.go:276", after := #[], guard := none } : Oper)) (v := ?_) rfl (by kernel_rfl) (by kernel_rfl) (by kernel_rfl) (fun _ _ _ h => h) (Or.inl ⟨by rfl, ?_⟩) (by assumption) ?_
    rotate_left
    · (intro w hSw; (try dsimp only at hSw); go_simp) <;> with_reducible rfl
    (try simp only [Act.put, List.setIfInBounds_toArray, List.set_cons_zero, List.set_cons_succ])
    refine wpAnyH_take (i := 2) (oi := ({ dst := some 47, op := Op.slice 26 (Operand.tmp 45) none (some (Operand.tmp 46)) none, type := 26, pos := "slices.go:276", after := #[{ on := 0, ground := Ground.data }, { on := 1, ground := Ground.data }], guard := none } : Oper)) (v := ?_) rfl (by kernel_rfl) (by kernel_rfl) (by kernel_rfl) (fun _ _ _ h => h) (Or.inl ⟨by rfl, ?_⟩) (by assumption) ?_
    rotate_left
    · (intro w hSw; (try dsimp only at hSw); go_simp) <;> with_reducible rfl
    (try simp only [Act.put, List.setIfInBounds_toArray, List.set_cons_zero, List.set_cons_succ])
    refine wpAnyH_take (i := 3) (oi := ({ dst := some 48, op := Op.call { callee := Callee.builtin Builtin.len, args := #[Operand.tmp 47], argTypes := #[26] }, type := 3, pos := "slices.go:276", after := #[{ on := 2, ground := Ground.data }], guard := none } : Oper)) (v := ?_) rfl (by kernel_rfl) (by kernel_rfl) (by kernel_rfl) (fun _ _ _ h => h) (Or.inl ⟨by rfl, ?_⟩) (by assumption) ?_
    rotate_left
    · (intro w hSw; (try dsimp only at hSw); go_simp) <;> with_reducible rfl
    (try simp only [Act.put, List.setIfInBounds_toArray, List.set_cons_zero, List.set_cons_succ])
    refine wpAnyH_take (i := 4) (oi := ({ dst := some 49, op := Op.move (Operand.tmp 3), type := 26, pos := "slices.go:276", after := #[], guard := none } : Oper)) (v := ?_) rfl (by kernel_rfl) (by kernel_rfl) (by kernel_rfl) (fun _ _ _ h => h) (Or.inl ⟨by rfl, ?_⟩) (by assumption) ?_
    rotate_left
    · (intro w hSw; (try dsimp only at hSw); go_simp) <;> with_reducible rfl
    (try simp only [Act.put, List.setIfInBounds_toArray, List.set_cons_zero, List.set_cons_succ])
    refine wpAnyH_take (i := 5) (oi := ({ dst := some 50, op := Op.call { callee := Callee.builtin Builtin.len, args := #[Operand.tmp 49], argTypes := #[26] }, type := 3, pos := "slices.go:276", after := #[{ on := 4, ground := Ground.data }], guard := none } : Oper)) (v := ?_) rfl (by kernel_rfl) (by kernel_rfl) (by kernel_rfl) (fun _ _ _ h => h) (Or.inl ⟨by rfl, ?_⟩) (by assumption) ?_
    rotate_left
    · (intro w hSw; (try dsimp only at hSw); go_simp) <;> with_reducible rfl
    (try simp only [Act.put, List.setIfInBounds_toArray, List.set_cons_zero, List.set_cons_succ])
    refine wpAnyH_take (i := 6) (oi := ({ dst := some 51, op := Op.binOp BinOp.add 3 (Operand.tmp 48) (Operand.tmp 50) 3, type := 3, pos := "slices.go:276", after := #[{ on := 3, ground := Ground.data }, { on := 5, ground := Ground.data }], guard := none } : Oper)) (v := ?_) rfl (by kernel_rfl) (by kernel_rfl) (by kernel_rfl) (fun _ _ _ h => h) (Or.inl ⟨by rfl, ?_⟩) (by assumption) ?_
    rotate_left
    · (intro w hSw; (try dsimp only at hSw); go_simp) <;> with_reducible rfl
    (try simp only [Act.put, List.setIfInBounds_toArray, List.set_cons_zero, List.set_cons_succ])
    refine wpAnyH_take (i := 7) (oi := ({ dst := some 52, op := Op.move (Operand.tmp 0), type := 26, pos := "slices.go:276", after := #[], guard := none } : Oper)) (v := ?_) rfl (by kernel_rfl) (by kernel_rfl) (by kernel_rfl) (fun _ _ _ h => h) (Or.inl ⟨by rfl, ?_⟩) (by assumption) ?_
    rotate_left
    · (intro w hSw; (try dsimp only at hSw); go_simp) <;> with_reducible rfl
    (try simp only [Act.put, List.setIfInBounds_toArray, List.set_cons_zero, List.set_cons_succ])
    refine wpAnyH_take (i := 8) (oi := ({ dst := some 53, op := Op.move (Operand.tmp 2), type := 3, pos := "slices.go:276", after := #[], guard := none } : Oper)) (v := ?_) rfl (by kernel_rfl) (by kernel_rfl) (by kernel_rfl) (fun _ _ _ h => h) (Or.inl ⟨by rfl, ?_⟩) (by assumption) ?_
    rotate_left
    · (intro w hSw; (try dsimp only at hSw); go_simp) <;> with_reducible rfl
    (try simp only [Act.put, List.setIfInBounds_toArray, List.set_cons_zero, List.set_cons_succ])
    refine wpAnyH_take (i := 9) (oi := ({ dst := some 54, op := Op.slice 26 (Operand.tmp 52) (some (Operand.tmp 53)) none none, type := 26, pos := "slices.go:276", after := #[{ on := 7, ground := Ground.data }, { on := 8, ground := Ground.data }], guard := none } : Oper)) (v := ?_) rfl (by kernel_rfl) (by kernel_rfl) (by kernel_rfl) (fun _ _ _ h => h) (Or.inl ⟨by rfl, ?_⟩) (by assumption) ?_
    rotate_left
    · (intro w hSw; (try dsimp only at hSw); go_simp) <;> with_reducible rfl
    (try simp only [Act.put, List.setIfInBounds_toArray, List.set_cons_zero, List.set_cons_succ])
    refine wpAnyH_take (i := 10) (oi := ({ dst := some 55, op := Op.call { callee := Callee.builtin Builtin.len, args := #[Operand.tmp 54], argTypes := #[26] }, type := 3, pos := "slices.go:276", after := #[{ on := 9, ground := Ground.data }], guard := none } : Oper)) (v := ?_) rfl (by kernel_rfl) (by kernel_rfl) (by kernel_rfl) (fun _ _ _ h => h) (Or.inl ⟨by rfl, ?_⟩) (by assumption) ?_
    rotate_left
    · (intro w hSw; (try dsimp only at hSw); go_simp) <;> with_reducible rfl
    (try simp only [Act.put, List.setIfInBounds_toArray, List.set_cons_zero, List.set_cons_succ])
    refine wpAnyH_take (i := 11) (oi := ({ dst := some 56, op := Op.binOp BinOp.add 3 (Operand.tmp 51) (Operand.tmp 55) 3, type := 3, pos := "slices.go:276", after := #[{ on := 6, ground := Ground.data }, { on := 10, ground := Ground.data }], guard := none } : Oper)) (v := ?_) rfl (by kernel_rfl) (by kernel_rfl) (by kernel_rfl) (fun _ _ _ h => h) (Or.inl ⟨by rfl, ?_⟩) (by assumption) ?_
    rotate_left
    · (intro w hSw; (try dsimp only at hSw); go_simp) <;> with_reducible rfl
    (try simp only [Act.put, List.setIfInBounds_toArray, List.set_cons_zero, List.set_cons_succ])
    refine wpAnyH_take (i := 12) (oi := ({ dst := some 10, op := Op.assign (Operand.tmp 56), type := 3, pos := "slices.go:276", after := #[{ on := 11, ground := Ground.data }, { on := 0, ground := Ground.phase }, { on := 1, ground := Ground.phase }, { on := 2, ground := Ground.phase }, { on := 3, ground := Ground.phase }, { on := 4, ground := Ground.phase }, { on := 5, ground := Ground.phase }, { on := 6, ground := Ground.phase }, { on := 7, ground := Ground.phase }, { on := 8, ground := Ground.phase }, { on := 9, ground := Ground.phase }, { on := 10, ground := Ground.phase }, { on := 11, ground := Ground.phase }], guard := none } : Oper)) (v := ?_) rfl (by kernel_rfl) (by kernel_rfl) (by kernel_rfl) (fun _ _ _ h => h) (Or.inl ⟨by rfl, ?_⟩) (by assumption) ?_
    rotate_left
    · (intro w hSw; (try dsimp only at hSw); go_simp) <;> with_reducible rfl
    (try simp only [Act.put, List.setIfInBounds_toArray, List.set_cons_zero, List.set_cons_succ])
    refine wpAnyH_done (by kernel_rfl) ?_ _
    refine NoPanic.normal ?_
    go_wp2_with (at_builtin; refine Lib.wpList_copy_run _ rfl _ _ 26 26 rfl _ _ rfl rfl (cp1 _ _) ?_)
    refine wp_region_noPanic ?_
    refine wp_region_held_drew (S := fun _ => True) (by kernel_rfl) (trivial) (fun hHeld => ?_)
    refine wpAnyH_take (i := 0) (oi := ({ dst := some 98, op := Op.move (Operand.tmp 12), type := 26, pos := "slices.go:290", after := #[], guard := none } : Oper)) (v := ?_) rfl (by kernel_rfl) (by kernel_rfl) (by kernel_rfl) (fun _ _ _ h => h) (Or.inl ⟨by rfl, ?_⟩) (by assumption) ?_
    rotate_left
    · (intro w hSw; (try dsimp only at hSw); go_simp) <;> with_reducible rfl
    (try simp only [Act.put, List.setIfInBounds_toArray, List.set_cons_zero, List.set_cons_succ])
    refine wpAnyH_take (i := 1) (oi := ({ dst := some 99, op := Op.move (Operand.tmp 1), type := 3, pos := "slices.go:290", after := #[], guard := none } : Oper)) (v := ?_) rfl (by kernel_rfl) (by kernel_rfl) (by kernel_rfl) (fun _ _ _ h => h) (Or.inl ⟨by rfl, ?_⟩) (by assumption) ?_
    rotate_left
    · (intro w hSw; (try dsimp only at hSw); go_simp) <;> with_reducible rfl
    (try simp only [Act.put, List.setIfInBounds_toArray, List.set_cons_zero, List.set_cons_succ])
    refine wpAnyH_take (i := 2) (oi := ({ dst := some 100, op := Op.move (Operand.tmp 3), type := 26, pos := "slices.go:290", after := #[], guard := none } : Oper)) (v := ?_) rfl (by kernel_rfl) (by kernel_rfl) (by kernel_rfl) (fun _ _ _ h => h) (Or.inl ⟨by rfl, ?_⟩) (by assumption) ?_
    rotate_left
    · (intro w hSw; (try dsimp only at hSw); go_simp) <;> with_reducible rfl
    (try simp only [Act.put, List.setIfInBounds_toArray, List.set_cons_zero, List.set_cons_succ])
    refine wpAnyH_take (i := 3) (oi := ({ dst := some 101, op := Op.call { callee := Callee.builtin Builtin.len, args := #[Operand.tmp 100], argTypes := #[26] }, type := 3, pos := "slices.go:290", after := #[{ on := 2, ground := Ground.data }], guard := none } : Oper)) (v := ?_) rfl (by kernel_rfl) (by kernel_rfl) (by kernel_rfl) (fun _ _ _ h => h) (Or.inl ⟨by rfl, ?_⟩) (by assumption) ?_
    rotate_left
    · (intro w hSw; (try dsimp only at hSw); go_simp) <;> with_reducible rfl
    (try simp only [Act.put, List.setIfInBounds_toArray, List.set_cons_zero, List.set_cons_succ])
    refine wpAnyH_take (i := 4) (oi := ({ dst := some 102, op := Op.binOp BinOp.add 3 (Operand.tmp 99) (Operand.tmp 101) 3, type := 3, pos := "slices.go:290", after := #[{ on := 1, ground := Ground.data }, { on := 3, ground := Ground.data }], guard := none } : Oper)) (v := ?_) rfl (by kernel_rfl) (by kernel_rfl) (by kernel_rfl) (fun _ _ _ h => h) (Or.inl ⟨by rfl, ?_⟩) (by assumption) ?_
    rotate_left
    · (intro w hSw; (try dsimp only at hSw); go_simp) <;> with_reducible rfl
    (try simp only [Act.put, List.setIfInBounds_toArray, List.set_cons_zero, List.set_cons_succ])
    refine wpAnyH_take (i := 5) (oi := ({ dst := some 103, op := Op.slice 26 (Operand.tmp 98) (some (Operand.tmp 102)) none none, type := 26, pos := "slices.go:290", after := #[{ on := 0, ground := Ground.data }, { on := 4, ground := Ground.data }], guard := none } : Oper)) (v := ?_) rfl (by kernel_rfl) (by kernel_rfl) (by kernel_rfl) (fun _ _ _ h => h) (Or.inl ⟨by rfl, ?_⟩) (by assumption) ?_
    rotate_left
    · (intro w hSw; (try dsimp only at hSw); go_simp) <;> with_reducible rfl
    (try simp only [Act.put, List.setIfInBounds_toArray, List.set_cons_zero, List.set_cons_succ])
    refine wpAnyH_take (i := 6) (oi := ({ dst := some 104, op := Op.move (Operand.tmp 0), type := 26, pos := "slices.go:290", after := #[], guard := none } : Oper)) (v := ?_) rfl (by kernel_rfl) (by kernel_rfl) (by kernel_rfl) (fun _ _ _ h => h) (Or.inl ⟨by rfl, ?_⟩) (by assumption) ?_
    rotate_left
    · (intro w hSw; (try dsimp only at hSw); go_simp) <;> with_reducible rfl
    (try simp only [Act.put, List.setIfInBounds_toArray, List.set_cons_zero, List.set_cons_succ])
    refine wpAnyH_take (i := 7) (oi := ({ dst := some 105, op := Op.move (Operand.tmp 2), type := 3, pos := "slices.go:290", after := #[], guard := none } : Oper)) (v := ?_) rfl (by kernel_rfl) (by kernel_rfl) (by kernel_rfl) (fun _ _ _ h => h) (Or.inl ⟨by rfl, ?_⟩) (by assumption) ?_
    rotate_left
    · (intro w hSw; (try dsimp only at hSw); go_simp) <;> with_reducible rfl
    (try simp only [Act.put, List.setIfInBounds_toArray, List.set_cons_zero, List.set_cons_succ])
    refine wpAnyH_take (i := 8) (oi := ({ dst := some 106, op := Op.slice 26 (Operand.tmp 104) (some (Operand.tmp 105)) none none, type := 26, pos := "slices.go:290", after := #[{ on := 6, ground := Ground.data }, { on := 7, ground := Ground.data }], guard := none } : Oper)) (v := ?_) rfl (by kernel_rfl) (by kernel_rfl) (by kernel_rfl) (fun _ _ _ h => h) (Or.inl ⟨by rfl, ?_⟩) (by assumption) ?_
    rotate_left
    · (intro w hSw; (try dsimp only at hSw); go_simp) <;> with_reducible rfl
    (try simp only [Act.put, List.setIfInBounds_toArray, List.set_cons_zero, List.set_cons_succ])
    refine wpAnyH_ready (rs := [9]) (by kernel_rfl) (by simp) ?_
    refine AllReadyH.cons (o := ({ dst := some 107, op := Op.call { callee := Callee.builtin Builtin.copy, args := #[Operand.tmp 103, Operand.tmp 106], argTypes := #[26, 26] }, type := 3, pos := "slices.go:290", after := #[{ on := 5, ground := Ground.data }, { on := 8, ground := Ground.data }], guard := none } : Oper)) rfl (fun K hK => ?_) ?_
    · skip
      rw [if_pos (by rfl)]
      refine Lib.wp_copy_run _ (.tmp 103) (.tmp 106) 26 26 rfl (.slice (some ⟨g, (i + 1) * 2, none⟩) m (c - (i + 1))) (.slice (some ⟨g, j * 2, none⟩) m (c - j)) (by simp [Act.eval]) (by simp [Act.eval]) (cp2 _ _ _) ?_
      refine hK.out _ _ ?_ (fun hHeld => ?_)
      · trivial
      clear hK K
      (try simp only [Act.put, List.setIfInBounds_toArray, List.set_cons_zero, List.set_cons_succ])
      refine wpAnyH_done (by kernel_rfl) ?_ _
      refine NoPanic.normal ?_
      go_wp2_with fail
      all_goals
        go_ret
        exact ⟨_, _, rfl, B2.out.1, B2.out.2, fresh_at hB⟩
    exact AllReadyH.nil

end Go.Proofs.Ytloiomfbmabfbaa
