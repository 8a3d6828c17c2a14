/-
  slices.Delete of one run.
-/
import Derived.Test.YtloiomfbmabfbaaCl5
namespace Go.Proofs.Ytloiomfbmabfbaa
open Go.ChangeShapes Go.WideShapes Go.ChangeAt Go.RowKit Go.Deep
set_option linter.unusedVariables false
set_option maxRecDepth 20000

set_option maxHeartbeats 1000000 in
theorem delete_any (w : World) (g n c i : Nat) (cs : List Value) (l : List M.R) (hb : Blk w g cs) (hcs : cs.length = c * 2) (hn : n = l.length) (hnc : n ≤ c) (hc : c ≤ maxLen) (hl : cs.take (n * 2) = rc l) (hi : i < n) (B : Nat) (hB : B ≤ g) :
    Calls Try.prog 43 #[.slice (some ⟨g, 0, none⟩) n c, .int .i64 (i : Int), .int .i64 ((i : Int) + 1)] w fun e w' => ∃ ds, e = .returned (.slice (some ⟨g, 0, none⟩) (n - 1) c) ∧ Blk w' g ds ∧ ds.take ((n - 1) * 2) = rc (l.take i ++ l.drop (i + 1)) ∧ Below B w w' := by
  unfold maxLen at hc
  obtain ⟨j, hj⟩ : ∃ j : Nat, j = i + 1 := ⟨_, rfl⟩
  rw [show (i : Int) + 1 = (j : Int) by omega]
  have hij : i < j := by omega
  have hjn : j ≤ n := by omega
  have hjc : j ≤ c := by omega
  have hic : i ≤ c := by omega
  obtain ⟨m, hm⟩ : ∃ m : Nat, n - j = m := ⟨_, rfl⟩
  obtain ⟨k, hk⟩ : ∃ k : Nat, k = n - 1 := ⟨_, rfl⟩
  rw [← hk]
  have hik2 : i + m = k := by omega
  have hkn : n - k = 1 := by omega
  have hkn2 : k ≤ n := by omega
  have hkn3 : k ≤ c := by omega
  have hkc : ¬ c = k := by omega
  have hdl : (rc (l.drop j)).length = m * 2 := by rw [rc_length, List.length_drop, ← hn, hm]
  obtain ⟨X, hX⟩ : ∃ X, X = splice cs (i * 2) (rc (l.drop j)) := ⟨_, rfl⟩
  have hfit : i * 2 + (rc (l.drop j)).length ≤ cs.length := by rw [hdl, hcs]; omega
  have hXl : X.length = c * 2 := by rw [hX, splice_length _ _ _ hfit, hcs]
  have hXt : X.take (k * 2) = rc (l.take i ++ l.drop j) := by
    have e1 : cs.take (i * 2) = rc (l.take i) := by
      rw [rc_take, ← hl, List.take_take, Nat.min_eq_left (by omega)]
    have hli : (rc (l.take i)).length = i * 2 := by rw [rc_length, List.length_take, Nat.min_eq_left (by omega)]
    rw [hX, splice, e1, ← rc_append, List.take_append_of_le_length (by rw [rc_length, List.length_append, List.length_take, List.length_drop]; omega), List.take_of_length_le (by rw [rc_length, List.length_append, List.length_take, List.length_drop]; omega)]
  have b1 : Blk (w.drew.setRow g X.toArray) g X := hb.drew.set X
  have hcl : ∀ ty mc, (Builtin.clear_ #[26] ty #[.slice (some ⟨g, k * 2, none⟩) 1 mc]).run Try.prog (w.drew.setRow g X.toArray) = .ok (.tuple #[]) ((w.drew.setRow g X.toArray).setRow g (splice X (k * 2) (List.replicate (1 * 2) (.int .i64 0))).toArray) := fun ty mc =>
    run_clear2 _ ty g (k * 2) X b1 1 mc (by omega) (by omega)
  have B2 := Lib.hid (show Blk ((w.drew.setRow g X.toArray).setRow g (splice X (k * 2) (List.replicate (1 * 2) (.int .i64 0))).toArray) g (splice X (k * 2) (List.replicate (1 * 2) (.int .i64 0))) ∧ (splice X (k * 2) (List.replicate (1 * 2) (.int .i64 0))).take (k * 2) = rc (l.take i ++ l.drop (i + 1)) ∧ Below B w ((w.drew.setRow g X.toArray).setRow g (splice X (k * 2) (List.replicate (1 * 2) (.int .i64 0))).toArray) from
    ⟨b1.set _, by rw [splice_take _ _ _ _ (by simp; omega) (Nat.le_refl _), hXt, hj], below_setRow (below_setRow (Below.refl B w).drew hB _) hB _⟩)
  have HH := Lib.hid (show Blk w g cs ∧ (rc (l.drop j)).length = m * 2 ∧ i * 2 + (rc (l.drop j)).length ≤ cs.length ∧ n = l.length ∧ cs.take (n * 2) = rc l from ⟨hb, hdl, hfit, hn, hl⟩)
  clear hj hk hdl hfit hXl hXt b1 hb hcs hl hn
  go_enter Try.func43, Try.ntmps43
  go_wp2_with fail
  by_cases hcj : j = c
  · subst hcj
    have hap : ∀ ty mc, (Builtin.append_ #[26, 26] ty #[.slice (some ⟨g, 0, none⟩) i j, .slice (some ⟨g, 0, none⟩) m mc]).run Try.prog w.drew = .ok (.slice (some ⟨g, 0, none⟩) k j) (w.drew.setRow g X.toArray) := fun ty mc => by
      have h0 : m = 0 := by omega
      have el : rc (l.drop j) = [] := List.eq_nil_of_length_eq_zero (by rw [HH.out.2.1, h0])
      have eX : X = cs := by rw [hX, el, splice_nil]
      rw [h0, run_append0 _ ty _ i j (by omega) _ mc, eX, setRow_self w.drew g cs.toArray _ _ HH.out.1, ← hik2, h0, Nat.add_zero]
    clear hX hik2 HH
    refine wp_region_noPanic ?_
    refine wp_region_held_drew (S := fun _ => True) (by kernel_rfl) (trivial) (fun hHeld => ?_)
    refine wpAnyH_take (i := 0) (oi := ({ dst := some 20, op := Op.move (Operand.tmp 0), type := 26, pos := "slices.go:232", after := #[], guard := none } : Oper)) (v := ?_) rfl (by kernel_rfl) (by kernel_rfl) (by kernel_rfl) (fun _ _ _ h => h) (Or.inl ⟨by rfl, ?_⟩) (by assumption) ?_
    rotate_left
    · (intro w hSw; (try dsimp only at hSw); go_simp) <;> with_reducible rfl
    (try simp only [Act.put, List.setIfInBounds_toArray, List.set_cons_zero, List.set_cons_succ])
    refine wpAnyH_take (i := 1) (oi := ({ dst := some 21, op := Op.move (Operand.tmp 1), type := 3, pos := "slices.go:232", after := #[], guard := none } : Oper)) (v := ?_) rfl (by kernel_rfl) (by kernel_rfl) (by kernel_rfl) (fun _ _ _ h => h) (Or.inl ⟨by rfl, ?_⟩) (by assumption) ?_
    rotate_left
    · (intro w hSw; (try dsimp only at hSw); go_simp) <;> with_reducible rfl
    (try simp only [Act.put, List.setIfInBounds_toArray, List.set_cons_zero, List.set_cons_succ])
    refine wpAnyH_take (i := 2) (oi := ({ dst := some 22, op := Op.slice 26 (Operand.tmp 20) none (some (Operand.tmp 21)) none, type := 26, pos := "slices.go:232", after := #[{ on := 0, ground := Ground.data }, { on := 1, ground := Ground.data }], guard := none } : Oper)) (v := ?_) rfl (by kernel_rfl) (by kernel_rfl) (by kernel_rfl) (fun _ _ _ h => h) (Or.inl ⟨by rfl, ?_⟩) (by assumption) ?_
    rotate_left
    · (intro w hSw; (try dsimp only at hSw); go_simp) <;> with_reducible rfl
    (try simp only [Act.put, List.setIfInBounds_toArray, List.set_cons_zero, List.set_cons_succ])
    refine wpAnyH_take (i := 3) (oi := ({ dst := some 23, op := Op.move (Operand.tmp 0), type := 26, pos := "slices.go:232", after := #[], guard := none } : Oper)) (v := ?_) rfl (by kernel_rfl) (by kernel_rfl) (by kernel_rfl) (fun _ _ _ h => h) (Or.inl ⟨by rfl, ?_⟩) (by assumption) ?_
    rotate_left
    · (intro w hSw; (try dsimp only at hSw); go_simp) <;> with_reducible rfl
    (try simp only [Act.put, List.setIfInBounds_toArray, List.set_cons_zero, List.set_cons_succ])
    refine wpAnyH_take (i := 4) (oi := ({ dst := some 24, op := Op.move (Operand.tmp 2), type := 3, pos := "slices.go:232", after := #[], guard := none } : Oper)) (v := ?_) rfl (by kernel_rfl) (by kernel_rfl) (by kernel_rfl) (fun _ _ _ h => h) (Or.inl ⟨by rfl, ?_⟩) (by assumption) ?_
    rotate_left
    · (intro w hSw; (try dsimp only at hSw); go_simp) <;> with_reducible rfl
    (try simp only [Act.put, List.setIfInBounds_toArray, List.set_cons_zero, List.set_cons_succ])
    refine wpAnyH_take (i := 5) (oi := ({ dst := some 25, op := Op.slice 26 (Operand.tmp 23) (some (Operand.tmp 24)) none none, type := 26, pos := "slices.go:232", after := #[{ on := 3, ground := Ground.data }, { on := 4, ground := Ground.data }], guard := none } : Oper)) (v := ?_) rfl (by kernel_rfl) (by kernel_rfl) (by kernel_rfl) (fun _ _ _ h => h) (Or.inl ⟨by rfl, ?_⟩) (by assumption) ?_
    rotate_left
    · (intro w hSw; (try dsimp only at hSw); go_simp) <;> with_reducible rfl
    (try simp only [Act.put, List.setIfInBounds_toArray, List.set_cons_zero, List.set_cons_succ])
    refine wpAnyH_ready (rs := [6]) (by kernel_rfl) (by simp) ?_
    refine AllReadyH.cons (o := ({ dst := some 26, op := Op.call { callee := Callee.builtin Builtin.append, args := #[Operand.tmp 22, Operand.tmp 25], argTypes := #[26, 26] }, type := 26, pos := "slices.go:232", after := #[{ on := 2, ground := Ground.data }, { on := 5, ground := Ground.data }], guard := none } : Oper)) rfl (fun K hK => ?_) ?_
    · skip
      rw [if_pos (by rfl)]
      refine Lib.wp_append_run _ (.tmp 22) (.tmp 25) 26 26 rfl (.slice (some ⟨g, 0, none⟩) i j) (.slice (some ⟨g, 0, none⟩) m (j - j)) (by simp [Act.eval]) (by simp [Act.eval]) _ _ (hap _ _) ?_
      refine hK.out _ _ ?_ (fun hHeld => ?_)
      · trivial
      clear hK K
      (try simp only [Act.put, List.setIfInBounds_toArray, List.set_cons_zero, List.set_cons_succ])
      refine wpAnyH_take (i := 7) (oi := ({ dst := some 0, op := Op.assign (Operand.tmp 26), type := 26, pos := "slices.go:232", after := #[{ on := 6, ground := Ground.data }, { on := 6, ground := Ground.chain }, { on := 0, ground := Ground.phase }, { on := 1, ground := Ground.phase }, { on := 2, ground := Ground.phase }, { on := 3, ground := Ground.phase }, { on := 4, ground := Ground.phase }, { on := 5, ground := Ground.phase }, { on := 6, ground := Ground.phase }], guard := none } : Oper)) (v := ?_) rfl (by kernel_rfl) (by kernel_rfl) (by kernel_rfl) (fun _ _ _ h => h) (Or.inl ⟨by rfl, ?_⟩) (by assumption) ?_
      rotate_left
      · (intro w hSw; (try dsimp only at hSw); go_simp) <;> with_reducible rfl
      (try simp only [Act.put, List.setIfInBounds_toArray, List.set_cons_zero])
      refine wpAnyH_done (by kernel_rfl) ?_ _
      refine NoPanic.normal ?_
      go_wp2_with fail
      go_ret
      exact ⟨_, rfl, B2.out.1, B2.out.2.1, B2.out.2.2⟩
    exact AllReadyH.nil
  · have hcj2 : ¬ c = j := fun h => hcj h.symm
    have hap : ∀ ty mc, (Builtin.append_ #[26, 26] ty #[.slice (some ⟨g, 0, none⟩) i c, .slice (some ⟨g, j * 2, none⟩) m mc]).run Try.prog w.drew = .ok (.slice (some ⟨g, 0, none⟩) k c) (w.drew.setRow g X.toArray) := fun ty mc => by
      rw [hX, ← hik2]
      exact run_room2 _ ty g cs HH.out.1.drew i c ⟨g, j * 2, none⟩ m mc (rc (l.drop j)) HH.out.2.1 (by omega) (fun x v hx => by
        rw [Addr.add_lit, HH.out.1.drew.cell]
        rw [rc_drop, List.getElem?_drop, ← HH.out.2.2.2.2, List.getElem?_take] at hx
        split at hx
        · exact hx
        · cases hx) HH.out.2.2.1 (rc_one _)
    clear hX hik2 HH
    refine wp_region_noPanic ?_
    refine wp_region_held_drew (S := fun _ => True) (by kernel_rfl) (trivial) (fun hHeld => ?_)
    refine wpAnyH_take (i := 0) (oi := ({ dst := some 20, op := Op.move (Operand.tmp 0), type := 26, pos := "slices.go:232", after := #[], guard := none } : Oper)) (v := ?_) rfl (by kernel_rfl) (by kernel_rfl) (by kernel_rfl) (fun _ _ _ h => h) (Or.inl ⟨by rfl, ?_⟩) (by assumption) ?_
    rotate_left
    · (intro w hSw; (try dsimp only at hSw); go_simp) <;> with_reducible rfl
    (try simp only [Act.put, List.setIfInBounds_toArray, List.set_cons_zero, List.set_cons_succ])
    refine wpAnyH_take (i := 1) (oi := ({ dst := some 21, op := Op.move (Operand.tmp 1), type := 3, pos := "slices.go:232", after := #[], guard := none } : Oper)) (v := ?_) rfl (by kernel_rfl) (by kernel_rfl) (by kernel_rfl) (fun _ _ _ h => h) (Or.inl ⟨by rfl, ?_⟩) (by assumption) ?_
    rotate_left
    · (intro w hSw; (try dsimp only at hSw); go_simp) <;> with_reducible rfl
    (try simp only [Act.put, List.setIfInBounds_toArray, List.set_cons_zero, List.set_cons_succ])
    refine wpAnyH_take (i := 2) (oi := ({ dst := some 22, op := Op.slice 26 (Operand.tmp 20) none (some (Operand.tmp 21)) none, type := 26, pos := "slices.go:232", after := #[{ on := 0, ground := Ground.data }, { on := 1, ground := Ground.data }], guard := none } : Oper)) (v := ?_) rfl (by kernel_rfl) (by kernel_rfl) (by kernel_rfl) (fun _ _ _ h => h) (Or.inl ⟨by rfl, ?_⟩) (by assumption) ?_
    rotate_left
    · (intro w hSw; (try dsimp only at hSw); go_simp) <;> with_reducible rfl
    (try simp only [Act.put, List.setIfInBounds_toArray, List.set_cons_zero, List.set_cons_succ])
    refine wpAnyH_take (i := 3) (oi := ({ dst := some 23, op := Op.move (Operand.tmp 0), type := 26, pos := "slices.go:232", after := #[], guard := none } : Oper)) (v := ?_) rfl (by kernel_rfl) (by kernel_rfl) (by kernel_rfl) (fun _ _ _ h => h) (Or.inl ⟨by rfl, ?_⟩) (by assumption) ?_
    rotate_left
    · (intro w hSw; (try dsimp only at hSw); go_simp) <;> with_reducible rfl
    (try simp only [Act.put, List.setIfInBounds_toArray, List.set_cons_zero, List.set_cons_succ])
    refine wpAnyH_take (i := 4) (oi := ({ dst := some 24, op := Op.move (Operand.tmp 2), type := 3, pos := "slices.go:232", after := #[], guard := none } : Oper)) (v := ?_) rfl (by kernel_rfl) (by kernel_rfl) (by kernel_rfl) (fun _ _ _ h => h) (Or.inl ⟨by rfl, ?_⟩) (by assumption) ?_
    rotate_left
    · (intro w hSw; (try dsimp only at hSw); go_simp) <;> with_reducible rfl
    (try simp only [Act.put, List.setIfInBounds_toArray, List.set_cons_zero, List.set_cons_succ])
    refine wpAnyH_take (i := 5) (oi := ({ dst := some 25, op := Op.slice 26 (Operand.tmp 23) (some (Operand.tmp 24)) none none, type := 26, pos := "slices.go:232", after := #[{ on := 3, ground := Ground.data }, { on := 4, ground := Ground.data }], guard := none } : Oper)) (v := ?_) rfl (by kernel_rfl) (by kernel_rfl) (by kernel_rfl) (fun _ _ _ h => h) (Or.inl ⟨by rfl, ?_⟩) (by assumption) ?_
    rotate_left
    · (intro w hSw; (try dsimp only at hSw); go_simp) <;> with_reducible rfl
    (try simp only [Act.put, List.setIfInBounds_toArray, List.set_cons_zero, List.set_cons_succ])
    refine wpAnyH_ready (rs := [6]) (by kernel_rfl) (by simp) ?_
    refine AllReadyH.cons (o := ({ dst := some 26, op := Op.call { callee := Callee.builtin Builtin.append, args := #[Operand.tmp 22, Operand.tmp 25], argTypes := #[26, 26] }, type := 26, pos := "slices.go:232", after := #[{ on := 2, ground := Ground.data }, { on := 5, ground := Ground.data }], guard := none } : Oper)) rfl (fun K hK => ?_) ?_
    · skip
      rw [if_pos (by rfl)]
      refine Lib.wp_append_run _ (.tmp 22) (.tmp 25) 26 26 rfl (.slice (some ⟨g, 0, none⟩) i c) (.slice (some ⟨g, j * 2, none⟩) m (c - j)) (by simp [Act.eval]) (by simp [Act.eval]) _ _ (hap _ _) ?_
      refine hK.out _ _ ?_ (fun hHeld => ?_)
      · trivial
      clear hK K
      (try simp only [Act.put, List.setIfInBounds_toArray, List.set_cons_zero, List.set_cons_succ])
      refine wpAnyH_take (i := 7) (oi := ({ dst := some 0, op := Op.assign (Operand.tmp 26), type := 26, pos := "slices.go:232", after := #[{ on := 6, ground := Ground.data }, { on := 6, ground := Ground.chain }, { on := 0, ground := Ground.phase }, { on := 1, ground := Ground.phase }, { on := 2, ground := Ground.phase }, { on := 3, ground := Ground.phase }, { on := 4, ground := Ground.phase }, { on := 5, ground := Ground.phase }, { on := 6, ground := Ground.phase }], guard := none } : Oper)) (v := ?_) rfl (by kernel_rfl) (by kernel_rfl) (by kernel_rfl) (fun _ _ _ h => h) (Or.inl ⟨by rfl, ?_⟩) (by assumption) ?_
      rotate_left
      · (intro w hSw; (try dsimp only at hSw); go_simp) <;> with_reducible rfl
      (try simp only [Act.put, List.setIfInBounds_toArray, List.set_cons_zero])
      refine wpAnyH_done (by kernel_rfl) ?_ _
      refine NoPanic.normal ?_
      go_wp2_with fail
      go_ret
      exact ⟨_, rfl, B2.out.1, B2.out.2.1, B2.out.2.2⟩
    exact AllReadyH.nil
end Go.Proofs.Ytloiomfbmabfbaa
