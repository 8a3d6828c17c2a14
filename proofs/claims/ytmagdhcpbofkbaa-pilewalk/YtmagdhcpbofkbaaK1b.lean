/-
  slices.Delete of one run.
-/
import Derived.Test.YtmagdhcpbofkbaaK1
import Derived.Lib.SlBuf
namespace Go.Proofs.Ytmagdhcpbofkbaa
open Go.ChangeShapes Go.WideShapes Go.ChangeAt Go.RowKit Go.Deep
set_option linter.unusedVariables false
set_option maxRecDepth 20000

set_option maxHeartbeats 1000000 in
theorem delete_any (w : World) (g n c i : Nat) (cs : List Value) (l : List M.R) (hb : Blk w g cs) (hcs : cs.length = c * 2) (hn : n = l.length) (hnc : n ≤ c) (hc : c ≤ maxLen) (hl : cs.take (n * 2) = rc l) (hi : i < n) (B : Nat) (hB : B ≤ g) :
    Calls Try.prog 90 #[.slice (some ⟨g, 0, none⟩) n c, .int .i64 (i : Int), .int .i64 ((i : Int) + 1)] w fun e w' => ∃ ds, e = .returned (.slice (some ⟨g, 0, none⟩) (n - 1) c) ∧ Blk w' g ds ∧ ds.take ((n - 1) * 2) = rc (l.take i ++ l.drop (i + 1)) ∧ Below B w w' := by
  unfold maxLen at hc
  obtain ⟨j, hj⟩ : ∃ j : Nat, j = i + 1 := ⟨_, rfl⟩
  rw [show (i : Int) + 1 = (j : Int) by omega]
  have hij : i < j := by omega
  have hjn : j ≤ n := by omega
  have hjc : j ≤ c := by omega
  have hic : i ≤ c := by omega
  obtain ⟨m, hm⟩ : ∃ m : Nat, n - j = m := ⟨_, rfl⟩
  obtain ⟨k, hk⟩ : ∃ k : Nat, k = n - 1 := ⟨_, rfl⟩
  rw [← hk]
  have hik2 : i + m = k := by omega
  have hkn : n - k = 1 := by omega
  have hkn2 : k ≤ n := by omega
  have hkn3 : k ≤ c := by omega
  have hkc : ¬ c = k := by omega
  have hdl : (rc (l.drop j)).length = m * 2 := by rw [rc_length, List.length_drop, ← hn, hm]
  obtain ⟨X, hX⟩ : ∃ X, X = splice cs (i * 2) (rc (l.drop j)) := ⟨_, rfl⟩
  have hfit : i * 2 + (rc (l.drop j)).length ≤ cs.length := by rw [hdl, hcs]; omega
  have hXl : X.length = c * 2 := by rw [hX, splice_length _ _ _ hfit, hcs]
  have hXt : X.take (k * 2) = rc (l.take i ++ l.drop j) := by
    have e1 : cs.take (i * 2) = rc (l.take i) := by
      rw [rc_take, ← hl, List.take_take, Nat.min_eq_left (by omega)]
    have hli : (rc (l.take i)).length = i * 2 := by rw [rc_length, List.length_take, Nat.min_eq_left (by omega)]
    rw [hX, splice, e1, ← rc_append, List.take_append_of_le_length (by rw [rc_length, List.length_append, List.length_take, List.length_drop]; omega), List.take_of_length_le (by rw [rc_length, List.length_append, List.length_take, List.length_drop]; omega)]
  have b1 : Blk (w.drew.setRow g X.toArray) g X := hb.drew.set X
  have hcl : ∀ ty mc, (Builtin.clear_ #[29] ty #[.slice (some ⟨g, k * 2, none⟩) 1 mc]).run Try.prog (w.drew.setRow g X.toArray) = .ok (.tuple #[]) ((w.drew.setRow g X.toArray).setRow g (splice X (k * 2) (List.replicate (1 * 2) (.int .i64 0))).toArray) := fun ty mc =>
    run_clear2 _ ty g (k * 2) X b1 1 mc (by omega) (by omega)
  have B2 := Lib.hid (show Blk ((w.drew.setRow g X.toArray).setRow g (splice X (k * 2) (List.replicate (1 * 2) (.int .i64 0))).toArray) g (splice X (k * 2) (List.replicate (1 * 2) (.int .i64 0))) ∧ (splice X (k * 2) (List.replicate (1 * 2) (.int .i64 0))).take (k * 2) = rc (l.take i ++ l.drop (i + 1)) ∧ Below B w ((w.drew.setRow g X.toArray).setRow g (splice X (k * 2) (List.replicate (1 * 2) (.int .i64 0))).toArray) from
    ⟨b1.set _, by rw [splice_take _ _ _ _ (by simp; omega) (Nat.le_refl _), hXt, hj], below_setRow (below_setRow (Below.refl B w).drew hB _) hB _⟩)
  have HH := Lib.hid (show Blk w g cs ∧ (rc (l.drop j)).length = m * 2 ∧ i * 2 + (rc (l.drop j)).length ≤ cs.length ∧ n = l.length ∧ cs.take (n * 2) = rc l from ⟨hb, hdl, hfit, hn, hl⟩)
  clear hj hk hdl hfit hXl hXt b1 hb hcs hl hn
  go_enter Try.func90, Try.ntmps90
  go_wp2_with fail
  by_cases hcj : j = c
  · subst hcj
    have hap : ∀ ty mc, (Builtin.append_ #[29, 29] ty #[.slice (some ⟨g, 0, none⟩) i j, .slice (some ⟨g, 0, none⟩) m mc]).run Try.prog w.drew = .ok (.slice (some ⟨g, 0, none⟩) k j) (w.drew.setRow g X.toArray) := fun ty mc => by
      have h0 : m = 0 := by omega
      have el : rc (l.drop j) = [] := List.eq_nil_of_length_eq_zero (by rw [HH.out.2.1, h0])
      have eX : X = cs := by rw [hX, el, splice_nil]
      rw [h0, run_append0 _ ty _ i j (by omega) _ mc, eX, setRow_self w.drew g cs.toArray _ _ HH.out.1, ← hik2, h0, Nat.add_zero]
    clear hX hik2 HH
    refine wp_region_noPanic ?_
    refine wp_region_held_drew (S := fun _ => True) (by kernel_rfl) (trivial) (fun hHeld => ?_)
    refine wpAnyH_take (i := 0) (oi := ({ dst := some 20, op := Op.move (Operand.tmp 0), type := 29, pos := "slices.go:232", after := #[], guard := none } : Oper)) (v := ?_) rfl (by kernel_rfl) (by kernel_rfl) (by kernel_rfl) (fun _ _ _ h => h) (Or.inl ⟨by rfl, ?_⟩) (by assumption) ?_
    rotate_left
    · (intro w hSw; (try dsimp only at hSw); go_simp) <;> with_reducible rfl
    (try simp only [Act.put, List.setIfInBounds_toArray, List.set_cons_zero, List.set_cons_succ])
    refine wpAnyH_take (i := 1) (oi := ({ dst := some 21, op := Op.move (Operand.tmp 1), type := 3, pos := "slices.go:232", after := #[], guard := none } : Oper)) (v := ?_) rfl (by kernel_rfl) (by kernel_rfl) (by kernel_rfl) (fun _ _ _ h => h) (Or.inl ⟨by rfl, ?_⟩) (by assumption) ?_
    rotate_left
    · (intro w hSw; (try dsimp only at hSw); go_simp) <;> with_reducible rfl
    (try simp only [Act.put, List.setIfInBounds_toArray, List.set_cons_zero, List.set_cons_succ])
    refine wpAnyH_take (i := 2) (oi := ({ dst := some 22, op := Op.slice 29 (Operand.tmp 20) none (some (Operand.tmp 21)) none, type := 29, pos := "slices.go:232", after := #[{ on := 0, ground := Ground.data }, { on := 1, ground := Ground.data }], guard := none } : Oper)) (v := ?_) rfl (by kernel_rfl) (by kernel_rfl) (by kernel_rfl) (fun _ _ _ h => h) (Or.inl ⟨by rfl, ?_⟩) (by assumption) ?_
    rotate_left
    · (intro w hSw; (try dsimp only at hSw); go_simp) <;> with_reducible rfl
    (try simp only [Act.put, List.setIfInBounds_toArray, List.set_cons_zero, List.set_cons_succ])
    refine wpAnyH_take (i := 3) (oi := ({ dst := some 23, op := Op.move (Operand.tmp 0), type := 29, pos := "slices.go:232", after := #[], guard := none } : Oper)) (v := ?_) rfl (by kernel_rfl) (by kernel_rfl) (by kernel_rfl) (fun _ _ _ h => h) (Or.inl ⟨by rfl, ?_⟩) (by assumption) ?_
    rotate_left
    · (intro w hSw; (try dsimp only at hSw); go_simp) <;> with_reducible rfl
    (try simp only [Act.put, List.setIfInBounds_toArray, List.set_cons_zero, List.set_cons_succ])
    refine wpAnyH_take (i := 4) (oi := ({ dst := some 24, op := Op.move (Operand.tmp 2), type := 3, pos := "slices.go:232", after := #[], guard := none } : Oper)) (v := ?_) rfl (by kernel_rfl) (by kernel_rfl) (by kernel_rfl) (fun _ _ _ h => h) (Or.inl ⟨by rfl, ?_⟩) (by assumption) ?_
    rotate_left
    · (intro w hSw; (try dsimp only at hSw); go_simp) <;> with_reducible rfl
    (try simp only [Act.put, List.setIfInBounds_toArray, List.set_cons_zero, List.set_cons_succ])
    refine wpAnyH_take (i := 5) (oi := ({ dst := some 25, op := Op.slice 29 (Operand.tmp 23) (some (Operand.tmp 24)) none none, type := 29, pos := "slices.go:232", after := #[{ on := 3, ground := Ground.data }, { on := 4, ground := Ground.data }], guard := none } : Oper)) (v := ?_) rfl (by kernel_rfl) (by kernel_rfl) (by kernel_rfl) (fun _ _ _ h => h) (Or.inl ⟨by rfl, ?_⟩) (by assumption) ?_
    rotate_left
    · (intro w hSw; (try dsimp only at hSw); go_simp) <;> with_reducible rfl
    (try simp only [Act.put, List.setIfInBounds_toArray, List.set_cons_zero, List.set_cons_succ])
    refine wpAnyH_ready (rs := [6]) (by kernel_rfl) (by simp) ?_
    refine AllReadyH.cons (o := ({ dst := some 26, op := Op.call { callee := Callee.builtin Builtin.append, args := #[Operand.tmp 22, Operand.tmp 25], argTypes := #[29, 29] }, type := 29, pos := "slices.go:232", after := #[{ on := 2, ground := Ground.data }, { on := 5, ground := Ground.data }], guard := none } : Oper)) rfl (fun K hK => ?_) ?_
    · skip
      rw [if_pos (by rfl)]
      refine Lib.wp_append_run _ (.tmp 22) (.tmp 25) 29 29 rfl (.slice (some ⟨g, 0, none⟩) i j) (.slice (some ⟨g, 0, none⟩) m (j - j)) (by simp [Act.eval]) (by simp [Act.eval]) _ _ (hap _ _) ?_
      refine hK.out _ _ ?_ (fun hHeld => ?_)
      · trivial
      clear hK K
      (try simp only [Act.put, List.setIfInBounds_toArray, List.set_cons_zero, List.set_cons_succ])
      refine wpAnyH_take (i := 7) (oi := ({ dst := some 0, op := Op.assign (Operand.tmp 26), type := 29, pos := "slices.go:232", after := #[{ on := 6, ground := Ground.data }, { on := 6, ground := Ground.chain }, { on := 0, ground := Ground.phase }, { on := 1, ground := Ground.phase }, { on := 2, ground := Ground.phase }, { on := 3, ground := Ground.phase }, { on := 4, ground := Ground.phase }, { on := 5, ground := Ground.phase }, { on := 6, ground := Ground.phase }], guard := none } : Oper)) (v := ?_) rfl (by kernel_rfl) (by kernel_rfl) (by kernel_rfl) (fun _ _ _ h => h) (Or.inl ⟨by rfl, ?_⟩) (by assumption) ?_
      rotate_left
      · (intro w hSw; (try dsimp only at hSw); go_simp) <;> with_reducible rfl
      (try simp only [Act.put, List.setIfInBounds_toArray, List.set_cons_zero])
      refine wpAnyH_done (by kernel_rfl) ?_ _
      refine NoPanic.normal ?_
      go_wp2_with fail
      go_ret
      exact ⟨_, rfl, B2.out.1, B2.out.2.1, B2.out.2.2⟩
    exact AllReadyH.nil
  · have hcj2 : ¬ c = j := fun h => hcj h.symm
    have hap : ∀ ty mc, (Builtin.append_ #[29, 29] ty #[.slice (some ⟨g, 0, none⟩) i c, .slice (some ⟨g, j * 2, none⟩) m mc]).run Try.prog w.drew = .ok (.slice (some ⟨g, 0, none⟩) k c) (w.drew.setRow g X.toArray) := fun ty mc => by
      rw [hX, ← hik2]
      exact run_room2 _ ty g cs HH.out.1.drew i c ⟨g, j * 2, none⟩ m mc (rc (l.drop j)) HH.out.2.1 (by omega) (fun x v hx => by
        rw [Addr.add_lit, HH.out.1.drew.cell]
        rw [rc_drop, List.getElem?_drop, ← HH.out.2.2.2.2, List.getElem?_take] at hx
        split at hx
        · exact hx
        · cases hx) HH.out.2.2.1 (rc_one _)
    clear hX hik2 HH
    refine wp_region_noPanic ?_
    refine wp_region_held_drew (S := fun _ => True) (by kernel_rfl) (trivial) (fun hHeld => ?_)
    refine wpAnyH_take (i := 0) (oi := ({ dst := some 20, op := Op.move (Operand.tmp 0), type := 29, pos := "slices.go:232", after := #[], guard := none } : Oper)) (v := ?_) rfl (by kernel_rfl) (by kernel_rfl) (by kernel_rfl) (fun _ _ _ h => h) (Or.inl ⟨by rfl, ?_⟩) (by assumption) ?_
    rotate_left
    · (intro w hSw; (try dsimp only at hSw); go_simp) <;> with_reducible rfl
    (try simp only [Act.put, List.setIfInBounds_toArray, List.set_cons_zero, List.set_cons_succ])
    refine wpAnyH_take (i := 1) (oi := ({ dst := some 21, op := Op.move (Operand.tmp 1), type := 3, pos := "slices.go:232", after := #[], guard := none } : Oper)) (v := ?_) rfl (by kernel_rfl) (by kernel_rfl) (by kernel_rfl) (fun _ _ _ h => h) (Or.inl ⟨by rfl, ?_⟩) (by assumption) ?_
    rotate_left
    · (intro w hSw; (try dsimp only at hSw); go_simp) <;> with_reducible rfl
    (try simp only [Act.put, List.setIfInBounds_toArray, List.set_cons_zero, List.set_cons_succ])
    refine wpAnyH_take (i := 2) (oi := ({ dst := some 22, op := Op.slice 29 (Operand.tmp 20) none (some (Operand.tmp 21)) none, type := 29, pos := "slices.go:232", after := #[{ on := 0, ground := Ground.data }, { on := 1, ground := Ground.data }], guard := none } : Oper)) (v := ?_) rfl (by kernel_rfl) (by kernel_rfl) (by kernel_rfl) (fun _ _ _ h => h) (Or.inl ⟨by rfl, ?_⟩) (by assumption) ?_
    rotate_left
    · (intro w hSw; (try dsimp only at hSw); go_simp) <;> with_reducible rfl
    (try simp only [Act.put, List.setIfInBounds_toArray, List.set_cons_zero, List.set_cons_succ])
    refine wpAnyH_take (i := 3) (oi := ({ dst := some 23, op := Op.move (Operand.tmp 0), type := 29, pos := "slices.go:232", after := #[], guard := none } : Oper)) (v := ?_) rfl (by kernel_rfl) (by kernel_rfl) (by kernel_rfl) (fun _ _ _ h => h) (Or.inl ⟨by rfl, ?_⟩) (by assumption) ?_
    rotate_left
    · (intro w hSw; (try dsimp only at hSw); go_simp) <;> with_reducible rfl
    (try simp only [Act.put, List.setIfInBounds_toArray, List.set_cons_zero, List.set_cons_succ])
    refine wpAnyH_take (i := 4) (oi := ({ dst := some 24, op := Op.move (Operand.tmp 2), type := 3, pos := "slices.go:232", after := #[], guard := none } : Oper)) (v := ?_) rfl (by kernel_rfl) (by kernel_rfl) (by kernel_rfl) (fun _ _ _ h => h) (Or.inl ⟨by rfl, ?_⟩) (by assumption) ?_
    rotate_left
    · (intro w hSw; (try dsimp only at hSw); go_simp) <;> with_reducible rfl
    (try simp only [Act.put, List.setIfInBounds_toArray, List.set_cons_zero, List.set_cons_succ])
    refine wpAnyH_take (i := 5) (oi := ({ dst := some 25, op := Op.slice 29 (Operand.tmp 23) (some (Operand.tmp 24)) none none, type := 29, pos := "slices.go:232", after := #[{ on := 3, ground := Ground.data }, { on := 4, ground := Ground.data }], guard := none } : Oper)) (v := ?_) rfl (by kernel_rfl) (by kernel_rfl) (by kernel_rfl) (fun _ _ _ h => h) (Or.inl ⟨by rfl, ?_⟩) (by assumption) ?_
    rotate_left
    · (intro w hSw; (try dsimp only at hSw); go_simp) <;> with_reducible rfl
    (try simp only [Act.put, List.setIfInBounds_toArray, List.set_cons_zero, List.set_cons_succ])
    refine wpAnyH_ready (rs := [6]) (by kernel_rfl) (by simp) ?_
    refine AllReadyH.cons (o := ({ dst := some 26, op := Op.call { callee := Callee.builtin Builtin.append, args := #[Operand.tmp 22, Operand.tmp 25], argTypes := #[29, 29] }, type := 29, pos := "slices.go:232", after := #[{ on := 2, ground := Ground.data }, { on := 5, ground := Ground.data }], guard := none } : Oper)) rfl (fun K hK => ?_) ?_
    · skip
      rw [if_pos (by rfl)]
      refine Lib.wp_append_run _ (.tmp 22) (.tmp 25) 29 29 rfl (.slice (some ⟨g, 0, none⟩) i c) (.slice (some ⟨g, j * 2, none⟩) m (c - j)) (by simp [Act.eval]) (by simp [Act.eval]) _ _ (hap _ _) ?_
      refine hK.out _ _ ?_ (fun hHeld => ?_)
      · trivial
      clear hK K
      (try simp only [Act.put, List.setIfInBounds_toArray, List.set_cons_zero, List.set_cons_succ])
      refine wpAnyH_take (i := 7) (oi := ({ dst := some 0, op := Op.assign (Operand.tmp 26), type := 29, pos := "slices.go:232", after := #[{ on := 6, ground := Ground.data }, { on := 6, ground := Ground.chain }, { on := 0, ground := Ground.phase }, { on := 1, ground := Ground.phase }, { on := 2, ground := Ground.phase }, { on := 3, ground := Ground.phase }, { on := 4, ground := Ground.phase }, { on := 5, ground := Ground.phase }, { on := 6, ground := Ground.phase }], guard := none } : Oper)) (v := ?_) rfl (by kernel_rfl) (by kernel_rfl) (by kernel_rfl) (fun _ _ _ h => h) (Or.inl ⟨by rfl, ?_⟩) (by assumption) ?_
      rotate_left
      · (intro w hSw; (try dsimp only at hSw); go_simp) <;> with_reducible rfl
      (try simp only [Act.put, List.setIfInBounds_toArray, List.set_cons_zero])
      refine wpAnyH_done (by kernel_rfl) ?_ _
      refine NoPanic.normal ?_
      go_wp2_with fail
      go_ret
      exact ⟨_, rfl, B2.out.1, B2.out.2.1, B2.out.2.2⟩
    exact AllReadyH.nil
end Go.Proofs.Ytmagdhcpbofkbaa
/-
  slices.Insert of one run.
-/
namespace Go.Proofs.Ytmagdhcpbofkbaa
open Go.ChangeShapes Go.WideShapes Go.ChangeAt Go.RowKit Go.Deep
set_option linter.unusedVariables false
set_option maxRecDepth 20000

/-- It lies in a block that was made behind others. -/
def FreshR (B : Nat) (A : Option Addr) : Prop := ∀ b, A = some b → B ≤ b.block
theorem fresh_none (B : Nat) : FreshR B none := fun b e => by cases e
theorem fresh_at {B g o : Nat} (h : B ≤ g) : FreshR B (some ⟨g, o, none⟩) := fun b e => by
  injection e with e
  rw [← e]
  exact h
theorem MineR.fresh {w : World} {B c : Nat} {A : Option Addr} {l : List M.R} (h : MineR w B A l c) : FreshR B A := by
  rcases h with ⟨rfl, _⟩ | ⟨g, cs, rfl, h1, _⟩
  · exact fresh_none B
  · exact fresh_at h1
theorem FreshR.mono {B B' : Nat} {A : Option Addr} (h : FreshR B A) (hB : B' ≤ B) : FreshR B' A := fun b e => Nat.le_trans hB (h b e)
/-- A list of runs that was answered, and what stays. -/
def Got (w : World) (B n : Nat) (l : List M.R) (e : Ending) (w' : World) : Prop := ∃ A' c', e = .returned (.slice A' n c') ∧ Runs w' A' l ∧ Below B w w' ∧ FreshR B A'
theorem splice_drop (cs : List Value) (o : Nat) (ds : List Value) (h : o ≤ cs.length) : (splice cs o ds).drop o = ds ++ cs.drop (o + ds.length) := by
  unfold splice
  have e : (cs.take o).length = o := by simp; omega
  rw [List.append_assoc, List.drop_append_of_le_length (by omega), List.drop_of_length_le (by omega), List.nil_append]
theorem splice_take2 (cs : List Value) (o : Nat) (ds : List Value) (h : o ≤ cs.length) : (splice cs o ds).take (o + ds.length) = cs.take o ++ ds := by
  unfold splice
  have e : (cs.take o ++ ds).length = o + ds.length := by simp; omega
  rw [List.take_append_of_le_length (by omega), List.take_of_length_le (by omega)]
theorem ins_room {cs : List Value} {l : List M.R} {n c i : Nat} {p q : Int} (hcs : cs.length = c * 2) (hn : n = l.length) (hl : cs.take (n * 2) = rc l) (hi : i ≤ n) (hc : n + 1 ≤ c) :
    (splice (splice cs ((i + 1) * 2) (rc (l.drop i))) (i * 2) [.int .i64 p, .int .i64 q]).take ((n + 1) * 2) = rc (l.take i ++ (⟨p, q⟩ :: l.drop i)) := by
  have hd : (rc (l.drop i)).length = (n - i) * 2 := by rw [rc_length, List.length_drop, hn]
  have hli : (rc (l.take i)).length = i * 2 := by rw [rc_length, List.length_take, Nat.min_eq_left (by omega)]
  have e1 : cs.take (i * 2) = rc (l.take i) := by rw [rc_take, ← hl, List.take_take, Nat.min_eq_left (by omega)]
  have e2 : splice (splice cs ((i + 1) * 2) (rc (l.drop i))) (i * 2) [.int .i64 p, .int .i64 q] = rc (l.take i ++ (⟨p, q⟩ :: l.drop i)) ++ cs.drop ((i + 1) * 2 + (rc (l.drop i)).length) := by
    rw [splice, splice_take _ _ _ _ (by omega) (by omega), e1]
    have : i * 2 + [Value.int .i64 p, .int .i64 q].length = (i + 1) * 2 := by simp; omega
    rw [this, splice_drop _ _ _ (by omega), rc_append, rc_cons]
    simp
  have hll : (rc (l.take i ++ (⟨p, q⟩ :: l.drop i))).length = (n + 1) * 2 := by
    rw [rc_length, List.length_append, List.length_cons, List.length_take, List.length_drop]; omega
  rw [e2, List.take_append_of_le_length (by omega), List.take_of_length_le (by omega)]
theorem ins_grow {Z : List Value} {l : List M.R} {n i : Nat} {p q : Int} (hZ : (n + 1) * 2 ≤ Z.length) (hn : n = l.length) (hl : Z.take (i * 2) = rc (l.take i)) (hi : i ≤ n) :
    (splice (splice Z (i * 2) [.int .i64 p, .int .i64 q]) ((i + 1) * 2) (rc (l.drop i))).take ((n + 1) * 2) = rc (l.take i ++ (⟨p, q⟩ :: l.drop i)) := by
  have hd : (rc (l.drop i)).length = (n - i) * 2 := by rw [rc_length, List.length_drop, hn]
  have e : i * 2 + [Value.int .i64 p, .int .i64 q].length = (i + 1) * 2 := by simp; omega
  have e1 : (splice Z (i * 2) [.int .i64 p, .int .i64 q]).take ((i + 1) * 2) = rc (l.take i) ++ [.int .i64 p, .int .i64 q] := by
    rw [← e, splice_take2 _ _ _ (by omega), hl]
  have hsl := splice_length Z (i * 2) [.int .i64 p, .int .i64 q] (by rw [e]; omega)
  have h3 : (n + 1) * 2 = (i + 1) * 2 + (rc (l.drop i)).length := by omega
  rw [h3, splice_take2 _ _ _ (by rw [hsl]; omega), e1, rc_append, rc_cons]
  simp
theorem overlaps_any (w : World) (vb g n c lb cb oB : Nat) (vs cs : List Value) (hv : Blk w vb vs) (hg : Blk w g cs) (hne : vb ≠ g) (hc : cs.length ≠ 0) :
    (callFunc 96 #[.slice (some ⟨vb, 0, none⟩) n c, .slice (some ⟨g, oB, none⟩) lb cb]).run Try.prog w = .ok (.value (.bool false)) w := by
  rw [run_callFunc_extern Try.func96 (by kernel_rfl) (by kernel_rfl) (by kernel_rfl) (e := Extern.SlicesOverlaps.overlaps #[29, 29] #[4]) (by kernel_rfl),
    Lib.run_overlaps_apart w 29 4 34 Try.underlying29 2 (fun w => by kernel_rfl) ⟨vb, 0, none⟩ ⟨g, oB, none⟩ n c lb cb hne _ _ _ _ hv.shape hg.shape hc (hv.frozen 0) (hv.frozen _)]
  rfl
theorem owns_of {w : World} {B c : Nat} {A : Option Addr} {l : List M.R} (h : MineR w B A l c) : w.ownsRow B 34 2 (.slice A l.length c) l.length (rc l) := by
  refine ⟨rc_length l, ?_⟩
  rcases h with ⟨rfl, rfl, rfl⟩ | ⟨g, cs, rfl, hB, hb, h1, h2, h3, h4⟩
  · exact .inl ⟨rfl, rfl⟩
  · exact .inr ⟨g, c, cs.toArray, rfl, hB, hb, h1, h2, by simpa using h3, by simpa using h4⟩

set_option maxHeartbeats 1000000 in
theorem insert_end (w : World) (B n c vb : Nat) (A : Option Addr) (l : List M.R) (p q : Int) (hm : MineR w B A l c) (hn : n = l.length) (hn4 : n ≤ 4000000000) (hBw : B ≤ w.heap.size) (hv : Blk w vb [.int .i64 p, .int .i64 q]) (hne : ∀ b, A = some b → vb ≠ b.block) :
    Calls Try.prog 95 #[.slice A n c, .int .i64 (n : Int), .slice (some ⟨vb, 0, none⟩) 1 1] w (Got w B (n + 1) (l ++ [⟨p, q⟩])) := by
  obtain ⟨i, hi, hi0, hi1, hi2⟩ := info36
  have HI := Lib.hid (And.intro hi (And.intro hi0 (And.intro hi1 hi2)))
  have own := owns_of hm
  rw [← hn] at own
  have hnc : n ≤ c := by
    rcases hm with ⟨_, rfl, rfl⟩ | ⟨g, cs, _, _, _, h, _⟩
    · simp at hn; omega
    · omega
  have hlow : ∀ k, (Value.slice A n c).ownBlock = some k → B ≤ k := fun k hk => by
    rcases hm with ⟨rfl, _, _⟩ | ⟨g, cs, rfl, h, _⟩
    · simp [Value.ownBlock] at hk
    · simp [Value.ownBlock] at hk
      omega
  have OWN := Lib.hid own
  have HL := Lib.hid hlow
  have HN := Lib.hid hn
  have HV := Lib.hid hv
  clear hi hi0 hi1 hi2 own hlow hm hn hv hne
  go_enter Try.func95, Try.ntmps95
  go_wp2_with (at_builtin; refine wpList_append_lies _ rfl _ _ 29 rfl B 34 i (.agg #[.int .i64 0, .int .i64 0]) 2 16 Try.underlying29 HI.out.1 HI.out.2.1 HI.out.2.2.1 HI.out.2.2.2 rfl (by decide) (.slice A n c) n (rc l) rfl OWN.out ⟨vb, 0, none⟩ 1 1 (rc [⟨p, q⟩]) rfl rfl (fun j u hu => by rw [Addr.add_lit, Nat.zero_add, HV.out.cell]; exact hu) (rc_one _) (by omega) (by unfold maxLen; omega) (by omega) hBw _ rfl ?_; intro g1 c1 w4 hrow hgr hat hlt)
  all_goals
    go_ret
    exact ⟨_, c1, rfl, (mine_of (l := l ++ [⟨p, q⟩]) (by rw [List.length_append, ← HN.out]) (by rw [rc_append]; exact hrow)).runs, (Below.refl _ _).grown hgr hBw (fun k hk => HL.out k hk), (mine_of (l := l ++ [⟨p, q⟩]) (by rw [List.length_append, ← HN.out]) (by rw [rc_append]; exact hrow)).fresh⟩

set_option maxHeartbeats 1000000 in
theorem insert_room (w : World) (B n c vb g i : Nat) (cs : List Value) (l : List M.R) (p q : Int) (hb : Blk w g cs) (hcs : cs.length = c * 2) (hn : n = l.length) (hc : c ≤ maxLen) (hl : cs.take (n * 2) = rc l) (hi : i < n) (hroom : n + 1 ≤ c) (hB : B ≤ g) (hv : Blk w vb [.int .i64 p, .int .i64 q]) (hne : vb ≠ g) :
    Calls Try.prog 95 #[.slice (some ⟨g, 0, none⟩) n c, .int .i64 (i : Int), .slice (some ⟨vb, 0, none⟩) 1 1] w (Got w B (n + 1) (l.take i ++ (⟨p, q⟩ :: l.drop i))) := by
  unfold maxLen at hc
  have hov := fun lb cb => overlaps_any w vb g 1 1 lb cb ((i + 1) * 2) _ cs hv hb hne (by omega)
  have hin : i ≤ n := by omega
  have hic : i ≤ c := by omega
  have hci : ¬ c = i := by omega
  have hci1 : ¬ c = i + 1 := by omega
  have hnc : n ≤ c := by omega
  have hwr : IntKind.i64.wrap ((i : Int) + 1) = (i : Int) + 1 := by rw [IntKind.wrap_i64]; omega
  have hw0 : (0 : Int) ≤ (i : Int) + 1 := by omega
  have hw1' : (i : Int) + 1 ≤ (n : Int) + 1 := by omega
  have hw2 : (i : Int) ≤ (n : Int) + 1 := by omega
  have hw3 : ((i : Int) + 1).toNat = i + 1 := by omega
  have hz2 : ¬ ((i : Int) = (n : Int)) := by omega
  have hdl : (rc (l.drop i)).length = (n - i) * 2 := by rw [rc_length, List.length_drop, hn]
  obtain ⟨X, hX⟩ : ∃ X, X = splice cs ((i + 1) * 2) (rc (l.drop i)) := ⟨_, rfl⟩
  have hXl : X.length = c * 2 := by rw [hX, splice_length _ _ _ (by omega), hcs]
  have b1 : Blk (w.drew.setRow g X.toArray) g X := hb.drew.set X
  have cp1 : ∀ ty dc sc, (Builtin.copy_ #[29, 29] ty #[.slice (some ⟨g, (i + 1) * 2, none⟩) (n - i) dc, .slice (some ⟨g, i * 2, none⟩) (n + 1 - i) sc]).run Try.prog w.drew = .ok (goInt ((n - i : Nat) : Int)) (w.drew.setRow g X.toArray) := fun ty dc sc => by
    rw [hX]
    exact run_copy2 _ ty g ((i + 1) * 2) cs hb.drew (n - i) dc ⟨g, i * 2, none⟩ (n + 1 - i) sc (n - i) (rc (l.drop i)) (by simp only [Nat.min_def]; split <;> omega) hdl (fun x v hx => by
      rw [Addr.add_lit, hb.drew.cell]
      rw [rc_drop, List.getElem?_drop, ← hl, List.getElem?_take] at hx
      split at hx
      · exact hx
      · cases hx) (by omega) (rc_one _)
  have cp2 : ∀ ty dc, (Builtin.copy_ #[29, 29] ty #[.slice (some ⟨g, i * 2, none⟩) (n + 1 - i) dc, .slice (some ⟨vb, 0, none⟩) 1 1]).run Try.prog (w.drew.setRow g X.toArray) = .ok (goInt 1) ((w.drew.setRow g X.toArray).setRow g (splice X (i * 2) [.int .i64 p, .int .i64 q]).toArray) := fun ty dc =>
    run_copy2 _ ty g (i * 2) X b1 (n + 1 - i) dc ⟨vb, 0, none⟩ 1 1 1 [.int .i64 p, .int .i64 q] (by simp only [Nat.min_def]; split <;> omega) rfl (fun x v hx => by
      rw [Addr.add_lit, Nat.zero_add, (hv.drew.other hne _).cell]
      exact hx) (by simp; omega) (by intro u hu; simp at hu; rcases hu with rfl | rfl <;> rfl)
  have B2 := Lib.hid (show Runs ((w.drew.setRow g X.toArray).setRow g (splice X (i * 2) [.int .i64 p, .int .i64 q]).toArray) (some ⟨g, 0, none⟩) (l.take i ++ (⟨p, q⟩ :: l.drop i)) ∧ Below B w ((w.drew.setRow g X.toArray).setRow g (splice X (i * 2) [.int .i64 p, .int .i64 q]).toArray) from
    ⟨(b1.set _).runs (by
      have := ins_room (p := p) (q := q) hcs hn hl hin hroom
      rw [← hX] at this
      rw [← this]
      congr 1
      rw [List.length_append, List.length_cons, List.length_take, List.length_drop]
      omega), below_setRow (below_setRow (Below.refl B w).drew hB _) hB _⟩)
  clear hn hX hXl b1 hb hcs hl hdl hv hne
  go_enter Try.func95, Try.ntmps95
  go_wp2_with (simp only [hov])
  refine wp_region_noPanic ?_
  refine wp_region_held_drew (S := fun _ => True) (by kernel_rfl) (trivial) (fun hHeld => ?_)
  refine wpAnyH_take (i := 0) (oi := ({ dst := some 69, op := Op.move (Operand.tmp 0), type := 29, pos := "slices.go:178", after := #[], guard := none } : Oper)) (v := ?_) rfl (by kernel_rfl) (by kernel_rfl) (by kernel_rfl) (fun _ _ _ h => h) (Or.inl ⟨by rfl, ?_⟩) (by assumption) ?_
  rotate_left
  · (intro w hSw; (try dsimp only at hSw); go_simp) <;> with_reducible rfl
  (try simp only [Act.put, List.setIfInBounds_toArray, List.set_cons_zero, List.set_cons_succ])
  refine wpAnyH_take (i := 1) (oi := ({ dst := some 70, op := Op.move (Operand.tmp 1), type := 3, pos := "slices.go:178", after := #[], guard := none } : Oper)) (v := ?_) rfl (by kernel_rfl) (by kernel_rfl) (by kernel_rfl) (fun _ _ _ h => h) (Or.inl ⟨by rfl, ?_⟩) (by assumption) ?_
  rotate_left
  · (intro w hSw; (try dsimp only at hSw); go_simp) <;> with_reducible rfl
  (try simp only [Act.put, List.setIfInBounds_toArray, List.set_cons_zero, List.set_cons_succ])
  refine wpAnyH_take (i := 2) (oi := ({ dst := some 71, op := Op.move (Operand.tmp 7), type := 3, pos := "slices.go:178", after := #[], guard := none } : Oper)) (v := ?_) rfl (by kernel_rfl) (by kernel_rfl) (by kernel_rfl) (fun _ _ _ h => h) (Or.inl ⟨by rfl, ?_⟩) (by assumption) ?_
  rotate_left
  · (intro w hSw; (try dsimp only at hSw); go_simp) <;> with_reducible rfl
  (try simp only [Act.put, List.setIfInBounds_toArray, List.set_cons_zero, List.set_cons_succ])
  refine wpAnyH_take (i := 3) (oi := ({ dst := some 72, op := Op.binOp BinOp.add 3 (Operand.tmp 70) (Operand.tmp 71) 3, type := 3, pos := "slices.go:178", after := #[{ on := 1, ground := Ground.data }, { on := 2, ground := Ground.data }], guard := none } : Oper)) (v := ?_) rfl (by kernel_rfl) (by kernel_rfl) (by kernel_rfl) (fun _ _ _ h => h) (Or.inl ⟨by rfl, ?_⟩) (by assumption) ?_
  rotate_left
  · (intro w hSw; (try dsimp only at hSw); go_simp) <;> with_reducible rfl
  (try simp only [Act.put, List.setIfInBounds_toArray, List.set_cons_zero, List.set_cons_succ])
  refine wpAnyH_take (i := 4) (oi := ({ dst := some 73, op := Op.slice 29 (Operand.tmp 69) (some (Operand.tmp 72)) none none, type := 29, pos := "slices.go:178", after := #[{ on := 0, ground := Ground.data }, { on := 3, ground := Ground.data }], guard := none } : Oper)) (v := ?_) rfl (by kernel_rfl) (by kernel_rfl) (by kernel_rfl) (fun _ _ _ h => h) (Or.inl ⟨by rfl, ?_⟩) (by assumption) ?_
  rotate_left
  · (intro w hSw; (try dsimp only at hSw); go_simp) <;> with_reducible rfl
  (try simp only [Act.put, List.setIfInBounds_toArray, List.set_cons_zero, List.set_cons_succ])
  refine wpAnyH_take (i := 5) (oi := ({ dst := some 74, op := Op.move (Operand.tmp 0), type := 29, pos := "slices.go:178", after := #[], guard := none } : Oper)) (v := ?_) rfl (by kernel_rfl) (by kernel_rfl) (by kernel_rfl) (fun _ _ _ h => h) (Or.inl ⟨by rfl, ?_⟩) (by assumption) ?_
  rotate_left
  · (intro w hSw; (try dsimp only at hSw); go_simp) <;> with_reducible rfl
  (try simp only [Act.put, List.setIfInBounds_toArray, List.set_cons_zero, List.set_cons_succ])
  refine wpAnyH_take (i := 6) (oi := ({ dst := some 75, op := Op.move (Operand.tmp 1), type := 3, pos := "slices.go:178", after := #[], guard := none } : Oper)) (v := ?_) rfl (by kernel_rfl) (by kernel_rfl) (by kernel_rfl) (fun _ _ _ h => h) (Or.inl ⟨by rfl, ?_⟩) (by assumption) ?_
  rotate_left
  · (intro w hSw; (try dsimp only at hSw); go_simp) <;> with_reducible rfl
  (try simp only [Act.put, List.setIfInBounds_toArray, List.set_cons_zero, List.set_cons_succ])
  refine wpAnyH_take (i := 7) (oi := ({ dst := some 76, op := Op.slice 29 (Operand.tmp 74) (some (Operand.tmp 75)) none none, type := 29, pos := "slices.go:178", after := #[{ on := 5, ground := Ground.data }, { on := 6, ground := Ground.data }], guard := none } : Oper)) (v := ?_) rfl (by kernel_rfl) (by kernel_rfl) (by kernel_rfl) (fun _ _ _ h => h) (Or.inl ⟨by rfl, ?_⟩) (by assumption) ?_
  rotate_left
  · (intro w hSw; (try dsimp only at hSw); go_simp) <;> with_reducible rfl
  (try simp only [Act.put, List.setIfInBounds_toArray, List.set_cons_zero, List.set_cons_succ])
  refine wpAnyH_ready (rs := [8]) (by kernel_rfl) (by simp) ?_
  refine AllReadyH.cons (o := ({ dst := some 77, op := Op.call { callee := Callee.builtin Builtin.copy, args := #[Operand.tmp 73, Operand.tmp 76], argTypes := #[29, 29] }, type := 3, pos := "slices.go:178", after := #[{ on := 4, ground := Ground.data }, { on := 7, ground := Ground.data }], guard := none } : Oper)) rfl (fun K hK => ?_) ?_
  · skip
    rw [if_pos (by rfl)]
    refine Lib.wp_copy_run _ (.tmp 73) (.tmp 76) 29 29 rfl (.slice (some ⟨g, (i + 1) * 2, none⟩) (n - i) (c - (i + 1))) (.slice (some ⟨g, i * 2, none⟩) (n + 1 - i) (c - i)) (by simp [Act.eval]) (by simp [Act.eval]) (cp1 _ _ _) ?_
    refine hK.out _ _ ?_ (fun hHeld => ?_)
    · trivial
    clear hK K
    (try simp only [Act.put, List.setIfInBounds_toArray, List.set_cons_zero, List.set_cons_succ])
    refine wpAnyH_done (by kernel_rfl) ?_ _
    refine NoPanic.normal ?_
    go_wp2_with (at_builtin; refine Lib.wpList_copy_run _ rfl _ _ 29 29 rfl _ _ rfl rfl (cp2 _ _) ?_)
    go_ret
    exact ⟨_, _, rfl, B2.out.1, B2.out.2, fresh_at hB⟩
  exact AllReadyH.nil

set_option maxHeartbeats 1000000 in
theorem insert_grow (w : World) (B n vb g i : Nat) (cs : List Value) (l : List M.R) (p q : Int) (hb : Blk w g cs) (hcs : cs.length = n * 2) (hn : n = l.length) (hn4 : n ≤ 4000000000) (hl : cs.take (n * 2) = rc l) (hi : i < n) (hB : B ≤ g) (hBw : B ≤ w.heap.size) (hv : Blk w vb [.int .i64 p, .int .i64 q]) (hne : vb ≠ g) :
    Calls Try.prog 95 #[.slice (some ⟨g, 0, none⟩) n n, .int .i64 (i : Int), .slice (some ⟨vb, 0, none⟩) 1 1] w (Got w B (n + 1) (l.take i ++ (⟨p, q⟩ :: l.drop i))) := by
  have hin : i ≤ n := by omega
  have hwr : IntKind.i64.wrap ((i : Int) + 1) = (i : Int) + 1 := by rw [IntKind.wrap_i64]; omega
  have hw0 : (0 : Int) ≤ (i : Int) + 1 := by omega
  have hw1' : (i : Int) + 1 ≤ (n : Int) + 1 := by omega
  have hw2 : (i : Int) ≤ (n : Int) + 1 := by omega
  have hw3 : ((i : Int) + 1).toNat = i + 1 := by omega
  have hni : ¬ n = i := by omega
  have hz2 : ¬ ((i : Int) = (n : Int)) := by omega
  obtain ⟨G, hG⟩ : ∃ G, G = grownCap w (n + 1) n 34 := ⟨_, rfl⟩
  have hGn : n + 1 ≤ G := by rw [hG]; exact grownCap_ge w _ _ _
  have hGm : G ≤ 9223372036854775807 := by
    have := grownCap_le_maxLen w (n + 1) n 34 (by unfold maxLen; omega)
    rw [← hG] at this
    unfold maxLen at this
    omega
  obtain ⟨i0, hi0, hz0, hs0, hb0⟩ := info36
  obtain ⟨h, hh⟩ : ∃ h, h = w.heap.size := ⟨_, rfl⟩
  have hli : (rc (l.take i)).length = i * 2 := by rw [rc_length, List.length_take, Nat.min_eq_left (by omega)]
  have e1 : cs.take (i * 2) = rc (l.take i) := by rw [rc_take, ← hl, List.take_take, Nat.min_eq_left (by omega)]
  have hold : (Builtin.firstCells i0.size i (.slice (some ⟨g, 0, none⟩) i n)).run Try.prog w.drew = .ok (rc (l.take i)).toArray w.drew := by
    rw [hs0]
    exact run_firstCells_some w.drew 2 i ⟨g, 0, none⟩ i n (rc (l.take i)) hli (fun j v hj => by
      rw [Addr.add_lit, Nat.zero_add, hb.drew.cell]
      rw [← e1, List.getElem?_take] at hj
      split at hj
      · exact hj
      · cases hj)
  obtain ⟨Z, hZ⟩ : ∃ Z : List Value, Z = ((rc (l.take i)).toArray ++ Builtin.zeroCells (Value.agg #[.int .i64 0, .int .i64 0]).cells (n + 1 - i) ++ Builtin.zeroCells (Value.agg #[.int .i64 0, .int .i64 0]).cells (G - (n + 1))).toList := ⟨_, rfl⟩
  have hZl : Z.length = G * 2 := by
    rw [hZ]
    simp only [Array.toList_append, List.length_append, zeros2, List.length_replicate]
    rw [show (rc (List.take i l)).toArray.toList.length = i * 2 from hli]
    omega
  have hZt : Z.take (i * 2) = rc (l.take i) := by
    rw [hZ]
    simp only [Array.toList_append, List.append_assoc]
    rw [List.take_append_of_le_length (by simp [hli]), List.take_of_length_le (by simp [hli])]
  have hap : ∀ ty, (Builtin.append_ #[29, 3] ty #[.slice (some ⟨g, 0, none⟩) i n, .int .i64 ((n : Int) + 1 - (i : Int))]).run Try.prog w = .ok (.slice (some ⟨h, 0, none⟩) (n + 1) G) (w.drew.alloc (.cells Z.toArray 34)) := fun ty => by
    have h1 := Lib.run_append_grow_zeros w 29 3 ty 34 i0 _ .i64 .i64 Try.underlying29 Try.underlying3 hi0 hz0 (some ⟨g, 0, none⟩) i n (rc (l.take i)) hold (n + 1 - i) (by omega) (by omega) (by omega) (by omega) (by rw [hb0]; omega) (by rw [hb0]; exact growslice_fits (by omega) (by omega))
    rw [show i + (n + 1 - i) = n + 1 by omega, ← hG, ← hh] at h1
    rw [show (n : Int) + 1 - (i : Int) = ((n + 1 - i : Nat) : Int) by omega, h1, hZ, Array.toArray_toList]
  have bZ : Blk (w.drew.alloc (.cells Z.toArray 34)) h Z := by rw [hh]; exact Blk.new w.drew Z
  have b2 : Blk ((w.drew.alloc (.cells Z.toArray 34)).setRow h (splice Z (i * 2) [.int .i64 p, .int .i64 q]).toArray) h (splice Z (i * 2) [.int .i64 p, .int .i64 q]) := bZ.set _
  have hgh : g ≠ h := by have := hb.lt; omega
  have hvh : vb ≠ h := by have := hv.lt; omega
  have cp1 : ∀ ty dc, (Builtin.copy_ #[29, 29] ty #[.slice (some ⟨h, i * 2, none⟩) (n + 1 - i) dc, .slice (some ⟨vb, 0, none⟩) 1 1]).run Try.prog (w.drew.alloc (.cells Z.toArray 34)) = .ok (goInt 1) ((w.drew.alloc (.cells Z.toArray 34)).setRow h (splice Z (i * 2) [.int .i64 p, .int .i64 q]).toArray) := fun ty dc =>
    run_copy2 _ ty h (i * 2) Z bZ (n + 1 - i) dc ⟨vb, 0, none⟩ 1 1 1 [.int .i64 p, .int .i64 q] (by simp only [Nat.min_def]; split <;> omega) rfl (fun x v hx => by
      rw [Addr.add_lit, Nat.zero_add, (hv.drew.alloc _).cell]
      exact hx) (by simp; omega) (by intro u hu; simp at hu; rcases hu with rfl | rfl <;> rfl)
  have hdl : (rc (l.drop i)).length = (n - i) * 2 := by rw [rc_length, List.length_drop, hn]
  have cp2 : ∀ ty dc sc, (Builtin.copy_ #[29, 29] ty #[.slice (some ⟨h, (i + 1) * 2, none⟩) (n - i) dc, .slice (some ⟨g, i * 2, none⟩) (n - i) sc]).run Try.prog ((w.drew.alloc (.cells Z.toArray 34)).setRow h (splice Z (i * 2) [.int .i64 p, .int .i64 q]).toArray).drew = .ok (goInt ((n - i : Nat) : Int)) (((w.drew.alloc (.cells Z.toArray 34)).setRow h (splice Z (i * 2) [.int .i64 p, .int .i64 q]).toArray).drew.setRow h (splice (splice Z (i * 2) [.int .i64 p, .int .i64 q]) ((i + 1) * 2) (rc (l.drop i))).toArray) := fun ty dc sc =>
    run_copy2 _ ty h ((i + 1) * 2) _ b2.drew (n - i) dc ⟨g, i * 2, none⟩ (n - i) sc (n - i) (rc (l.drop i)) (by simp only [Nat.min_def]; split <;> omega) hdl (fun x v hx => by
      rw [Addr.add_lit, ((hb.drew.alloc _).other hgh _).drew.cell]
      rw [rc_drop, List.getElem?_drop, ← hl, List.getElem?_take] at hx
      split at hx
      · exact hx
      · cases hx) (by rw [splice_length _ _ _ (by simp; omega)]; omega) (rc_one _)
  have B2 := Lib.hid (show Runs (((w.drew.alloc (.cells Z.toArray 34)).setRow h (splice Z (i * 2) [.int .i64 p, .int .i64 q]).toArray).drew.setRow h (splice (splice Z (i * 2) [.int .i64 p, .int .i64 q]) ((i + 1) * 2) (rc (l.drop i))).toArray) (some ⟨h, 0, none⟩) (l.take i ++ (⟨p, q⟩ :: l.drop i)) ∧ Below B w (((w.drew.alloc (.cells Z.toArray 34)).setRow h (splice Z (i * 2) [.int .i64 p, .int .i64 q]).toArray).drew.setRow h (splice (splice Z (i * 2) [.int .i64 p, .int .i64 q]) ((i + 1) * 2) (rc (l.drop i))).toArray) from
    ⟨(b2.drew.set _).runs (by
      have := ins_grow (p := p) (q := q) (show (n + 1) * 2 ≤ Z.length by omega) hn hZt hin
      rw [← this]
      congr 1
      rw [List.length_append, List.length_cons, List.length_take, List.length_drop]
      omega), below_setRow (below_setRow ((Below.refl B w).drew.alloc hBw _) (by omega) _).drew (by omega) _⟩)
  have hGi : ¬ G = i := by omega
  have hGi1 : ¬ G = i + 1 := by omega
  have hiG : i ≤ G := by omega
  have HBH := Lib.hid (show B ≤ h by omega)
  obtain ⟨w1, hw1⟩ : ∃ w1, w1 = (w.drew.alloc (.cells Z.toArray 34)) := ⟨_, rfl⟩
  rw [← hw1] at hap cp1 cp2 B2
  clear hn hG hZ hZl hZt bZ b2 hb hcs hl hdl hv hne hold hw1 hh hgh hvh e1 hli hi0 hz0 hs0 hb0
  go_enter Try.func95, Try.ntmps95
  go_wp2_with (first
    | (at_builtin; refine Lib.wpList_append_run _ rfl _ _ 29 3 rfl (.slice (some ⟨g, 0, none⟩) i n) (.int .i64 ((n : Int) + 1 - (i : Int))) rfl rfl _ _ (hap _) ?_)
    | (at_builtin; refine Lib.wpList_copy_run _ rfl _ _ 29 29 rfl _ _ rfl rfl (cp1 _ _) ?_))
  refine wp_region_noPanic ?_
  refine wp_region_held_drew (S := fun _ => True) (by kernel_rfl) (trivial) (fun hHeld => ?_)
  refine wpAnyH_take (i := 0) (oi := ({ dst := some 46, op := Op.move (Operand.tmp 9), type := 29, pos := "slices.go:154", after := #[], guard := none } : Oper)) (v := ?_) rfl (by kernel_rfl) (by kernel_rfl) (by kernel_rfl) (fun _ _ _ h => h) (Or.inl ⟨by rfl, ?_⟩) (by assumption) ?_
  rotate_left
  · (intro w hSw; (try dsimp only at hSw); go_simp) <;> with_reducible rfl
  (try simp only [Act.put, List.setIfInBounds_toArray, List.set_cons_zero, List.set_cons_succ])
  refine wpAnyH_take (i := 1) (oi := ({ dst := some 47, op := Op.move (Operand.tmp 1), type := 3, pos := "slices.go:154", after := #[], guard := none } : Oper)) (v := ?_) rfl (by kernel_rfl) (by kernel_rfl) (by kernel_rfl) (fun _ _ _ h => h) (Or.inl ⟨by rfl, ?_⟩) (by assumption) ?_
  rotate_left
  · (intro w hSw; (try dsimp only at hSw); go_simp) <;> with_reducible rfl
  (try simp only [Act.put, List.setIfInBounds_toArray, List.set_cons_zero, List.set_cons_succ])
  refine wpAnyH_take (i := 2) (oi := ({ dst := some 48, op := Op.move (Operand.tmp 7), type := 3, pos := "slices.go:154", after := #[], guard := none } : Oper)) (v := ?_) rfl (by kernel_rfl) (by kernel_rfl) (by kernel_rfl) (fun _ _ _ h => h) (Or.inl ⟨by rfl, ?_⟩) (by assumption) ?_
  rotate_left
  · (intro w hSw; (try dsimp only at hSw); go_simp) <;> with_reducible rfl
  (try simp only [Act.put, List.setIfInBounds_toArray, List.set_cons_zero, List.set_cons_succ])
  refine wpAnyH_take (i := 3) (oi := ({ dst := some 49, op := Op.binOp BinOp.add 3 (Operand.tmp 47) (Operand.tmp 48) 3, type := 3, pos := "slices.go:154", after := #[{ on := 1, ground := Ground.data }, { on := 2, ground := Ground.data }], guard := none } : Oper)) (v := ?_) rfl (by kernel_rfl) (by kernel_rfl) (by kernel_rfl) (fun _ _ _ h => h) (Or.inl ⟨by rfl, ?_⟩) (by assumption) ?_
  rotate_left
  · (intro w hSw; (try dsimp only at hSw); go_simp) <;> with_reducible rfl
  (try simp only [Act.put, List.setIfInBounds_toArray, List.set_cons_zero, List.set_cons_succ])
  refine wpAnyH_take (i := 4) (oi := ({ dst := some 50, op := Op.slice 29 (Operand.tmp 46) (some (Operand.tmp 49)) none none, type := 29, pos := "slices.go:154", after := #[{ on := 0, ground := Ground.data }, { on := 3, ground := Ground.data }], guard := none } : Oper)) (v := ?_) rfl (by kernel_rfl) (by kernel_rfl) (by kernel_rfl) (fun _ _ _ h => h) (Or.inl ⟨by rfl, ?_⟩) (by assumption) ?_
  rotate_left
  · (intro w hSw; (try dsimp only at hSw); go_simp) <;> with_reducible rfl
  (try simp only [Act.put, List.setIfInBounds_toArray, List.set_cons_zero, List.set_cons_succ])
  refine wpAnyH_take (i := 5) (oi := ({ dst := some 51, op := Op.move (Operand.tmp 0), type := 29, pos := "slices.go:154", after := #[], guard := none } : Oper)) (v := ?_) rfl (by kernel_rfl) (by kernel_rfl) (by kernel_rfl) (fun _ _ _ h => h) (Or.inl ⟨by rfl, ?_⟩) (by assumption) ?_
  rotate_left
  · (intro w hSw; (try dsimp only at hSw); go_simp) <;> with_reducible rfl
  (try simp only [Act.put, List.setIfInBounds_toArray, List.set_cons_zero, List.set_cons_succ])
  refine wpAnyH_take (i := 6) (oi := ({ dst := some 52, op := Op.move (Operand.tmp 1), type := 3, pos := "slices.go:154", after := #[], guard := none } : Oper)) (v := ?_) rfl (by kernel_rfl) (by kernel_rfl) (by kernel_rfl) (fun _ _ _ h => h) (Or.inl ⟨by rfl, ?_⟩) (by assumption) ?_
  rotate_left
  · (intro w hSw; (try dsimp only at hSw); go_simp) <;> with_reducible rfl
  (try simp only [Act.put, List.setIfInBounds_toArray, List.set_cons_zero, List.set_cons_succ])
  refine wpAnyH_take (i := 7) (oi := ({ dst := some 53, op := Op.slice 29 (Operand.tmp 51) (some (Operand.tmp 52)) none none, type := 29, pos := "slices.go:154", after := #[{ on := 5, ground := Ground.data }, { on := 6, ground := Ground.data }], guard := none } : Oper)) (v := ?_) rfl (by kernel_rfl) (by kernel_rfl) (by kernel_rfl) (fun _ _ _ h => h) (Or.inl ⟨by rfl, ?_⟩) (by assumption) ?_
  rotate_left
  · (intro w hSw; (try dsimp only at hSw); go_simp) <;> with_reducible rfl
  (try simp only [Act.put, List.setIfInBounds_toArray, List.set_cons_zero, List.set_cons_succ])
  refine wpAnyH_ready (rs := [8]) (by kernel_rfl) (by simp) ?_
  refine AllReadyH.cons (o := ({ dst := some 54, op := Op.call { callee := Callee.builtin Builtin.copy, args := #[Operand.tmp 50, Operand.tmp 53], argTypes := #[29, 29] }, type := 3, pos := "slices.go:154", after := #[{ on := 4, ground := Ground.data }, { on := 7, ground := Ground.data }], guard := none } : Oper)) rfl (fun K hK => ?_) ?_
  · skip
    rw [if_pos (by rfl)]
    refine Lib.wp_copy_run _ (.tmp 50) (.tmp 53) 29 29 rfl (.slice (some ⟨h, (i + 1) * 2, none⟩) (n - i) (G - (i + 1))) (.slice (some ⟨g, i * 2, none⟩) (n - i) (n - i)) (by simp [Act.eval]) (by simp [Act.eval]) (cp2 _ _ _) ?_
    refine hK.out _ _ ?_ (fun hHeld => ?_)
    · trivial
    clear hK K
    (try simp only [Act.put, List.setIfInBounds_toArray, List.set_cons_zero, List.set_cons_succ])
    refine wpAnyH_done (by kernel_rfl) ?_ _
    refine NoPanic.normal ?_
    go_wp2_with fail
    go_ret
    exact ⟨_, _, rfl, B2.out.1, B2.out.2, fresh_at HBH.out⟩
  exact AllReadyH.nil
end Go.Proofs.Ytmagdhcpbofkbaa
