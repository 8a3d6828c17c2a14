/-
  The document's Take.
-/
import Derived.Test.YtmboibipabkhaaaGreatKxK0
import Derived.Test.YtmboibipabkhaaaGreatKxRT5
import Derived.Test.YtmboibipabkhaaaGreatKxK2
namespace Go.Proofs.YtmboibipabkhaaaGreat
open Go.ChangeShapes Go.WideShapes Go.ChangeAt Go.RowKit Go.Deep
set_option linter.unusedVariables false
set_option maxRecDepth 20000
theorem MineR.low {w : World} {B c : Nat} {A : Option Addr} {l : List M.R} (h : MineR w B A l c) (t : Nat) : ∀ k, (Value.slice A t c).ownBlock = some k → B ≤ k := fun k hk => by
 rcases h with ⟨rfl, _⟩ | ⟨g, cs, rfl, h1, _⟩
 ·simp [Value.ownBlock] at hk
 ·simp [Value.ownBlock] at hk
  omega
theorem app_mine {w W w' : World} {B t c g1 c1 : Nat} {A : Option Addr} {l : List M.R} {x : M.R} {o : Obj} (hm : MineR W B A l c) (ht : t = l.length) (hb : Below B w W) (hB : B ≤ W.heap.size)
  (hrow : w'.ownsRow B 98 2 (.slice (some ⟨g1, 0, none⟩) (t + 1) c1) (t + 1) (rc l ++ rc [x])) (hgr : (W.alloc o).grownBy w' (Value.slice A t c).ownBlock) : MineR w' B (some ⟨g1, 0, none⟩) (l ++ [x]) c1 ∧ Below B w w' :=
 ⟨mine_of (n := t + 1) (by rw [List.length_append, ht]; rfl) (by rw [rc_append]; exact hrow), (hb.alloc hB o).grown hgr (Nat.le_trans hB (le_alloc _ _)) (fun k hk => hm.low t k hk)⟩
theorem mine_owns {w : World} {B t c : Nat} {A : Option Addr} {l : List M.R} (hm : MineR w B A l c) (ht : t = l.length) (o : Obj) : (w.alloc o).ownsRow B 98 2 (.slice A t c) t (rc l) := by
 subst ht
 exact owns_of (hm.alloc o)
theorem new_cells (w : World) (p q : Int) : ∀ j u, (rc [⟨p, q⟩])[j]? = some u → (w.alloc (.cells #[.int .i64 p, .int .i64 q] 98)).cell? ((⟨w.heap.size, 0, none⟩ : Addr).add j) = some u := fun j u hu => by
 rw [Addr.add_lit, Nat.zero_add, (Blk.new w [.int .i64 p, .int .i64 q]).cell]
 exact hu
def pre (l : List M.R) (k : Nat) (X : List M.R) (i : Nat) : List M.R := if i ≤ k then l.take i else l.take k ++ (X ++ (l.take i).drop (k + 1))
theorem pre_other {l X : List M.R} {k i : Nat} (hi : i < l.length) (h : i ≠ k) : pre l k X (i + 1) = pre l k X i ++ [l[i]] := by
 unfold pre
 rcases Nat.lt_or_ge i k with h1 | h1
 ·rw [if_pos (by omega), if_pos (by omega), List.take_succ_eq_append_getElem hi]
 ·rw [if_neg (by omega), if_neg (by omega), List.take_succ_eq_append_getElem hi, List.drop_append_of_le_length (by rw [List.length_take]; omega)]
  simp
theorem pre_at {l X : List M.R} {k : Nat} (hk : k < l.length) : pre l k X (k + 1) = pre l k X k ++ X := by
 unfold pre
 rw [if_neg (by omega), if_pos (by omega), List.drop_of_length_le (by rw [List.length_take]; omega), List.append_nil]
theorem pre_end {l X : List M.R} {k : Nat} (hk : k < l.length) : pre l k X l.length = l.take k ++ (X ++ l.drop (k + 1)) := by
 unfold pre
 rw [if_neg (by omega), List.take_length]
set_option maxHeartbeats 8000000 in
theorem rtake_any (w : World) (A : Option Addr) (l : List M.R) (z c : Nat) (hz : z = l.length) (hA : Runs w A l) (hl : z ≤ 100) (hok : M.Ok (-1) 1073741824 l) (n : Int) :
  Calls Tryz.prog 81 #[.slice A z c, .int .i64 n] w (GotT w (takeP l n) (takeL l n) (takeB l n)) := by
 have HZ := Lib.hid hz
 have HA := Lib.hid hA
 have HO := Lib.hid hok
 clear hz hA hok
 obtain ⟨i0, hi, hi0, hi1, hi2⟩ := info36
 have HI := Lib.hid (And.intro hi (And.intro hi0 (And.intro hi1 hi2)))
 clear hi hi0 hi1 hi2
 have hbest := M.best_is n l
 obtain ⟨b, hb⟩ : ∃ b, b = M.best n l := ⟨_, rfl⟩
 have hcall := fun W h => rbest_any W A l z c HZ.out h (by omega) n
 rw [← hb] at hbest hcall
 have HC := Lib.hid hcall
 clear hcall
 rcases Int.lt_or_le b 0 with h | h
 ·have hB : takeB l n = false := by unfold takeB; rw [← hb]; simp; omega
  have HR := Lib.hid (show takeP l n = 0 ∧ takeL l n = [] ∧ takeB l n = false from ⟨by rw [takeP, hB]; rfl, by rw [takeL, hB]; rfl, hB⟩)
  clear hbest hb hB
  go_enter Tryz.func81, Tryz.ntmps81
  go_wp2_with (go_at_call 104; refine (HC.out _ HA.out).mono ?_; rintro e w2 ⟨rfl, b2⟩)
  refine bodyPost_ret (v := .tuple #[.int .i64 0, .slice none 0 0, .bool false]) ?_ rfl ?_
  ·simp [results, go_sem]
  ·exact ⟨none, 0, 0, by rw [HR.out.1, HR.out.2.2], by rw [HR.out.2.1]; rfl, by rw [HR.out.2.1]; exact Runs.nil, b2, fresh_none _⟩
 ·obtain ⟨k, hk, rfl, hn1, hn2, hn3⟩ := hbest.pos h
  have hB : takeB l n = true := by unfold takeB; rw [← hb]; simp
  have eP : takeP l n = l[k].p := by rw [takeP, if_pos hB, ← hb, Int.toNat_natCast, M.getD_at l k hk]
  obtain ⟨bl, o, rfl, hc⟩ := HA.out (by omega)
  have bk := ok_at HO.out k hk
  obtain ⟨X, hX⟩ : ∃ X : List M.R, X = if l[k].n = n then [] else [⟨l[k].p + n, l[k].n - n⟩] := ⟨_, rfl⟩
  have eL : takeL l n = pre l k X l.length := by
   rw [takeL, if_pos hB, ← hb, pre_end hk, hX, Int.toNat_natCast, M.left, M.getD_at l k hk]
  have ck0 := (hc k hk).1
  have ck1 := (hc k hk).2
  obtain ⟨p, hp⟩ : ∃ p, p = l[k].p := ⟨_, rfl⟩
  obtain ⟨m, hm⟩ : ∃ m, m = l[k].n := ⟨_, rfl⟩
  rw [← hp] at bk hX eP ck0
  rw [← hm] at bk hX hn2 ck1
  have hkz : k < z := by rw [HZ.out]; exact hk
  have HR := Lib.hid (show takeP l n = p ∧ takeL l n = pre l k X l.length ∧ takeB l n = true from ⟨eP, eL, hB⟩)
  have HX := Lib.hid hX
  have HCC := Lib.hid hc
  have CK := Lib.hid (And.intro ck0 ck1)
  have HK := Lib.hid bk
  have HKL := Lib.hid (show k < l.length ∧ True from ⟨hk, trivial⟩)
  have HBK := Lib.hid bk
  clear hbest hb hB eL eP hc hp hm hn3 h bk hX ck0 ck1 hk HBK
  go_enter Tryz.func81, Tryz.ntmps81
  go_wp2_with (go_at_call 104; refine (HC.out _ HA.out).mono ?_; rintro e w2 ⟨rfl, b2⟩)
  have B2 := Lib.hid b2
  clear b2
  go_loopw [8, 9] (fun v i wr => ∃ (j t c' : Nat) (A' : Option Addr), j ≤ z ∧ i = .int .i64 (j : Int) ∧ v = .slice A' t c' ∧ t = (pre l k X j).length ∧ t ≤ j + 1 ∧ MineR wr w.heap.size A' (pre l k X j) c' ∧ Below w.heap.size w wr) (fun v i _ => z - (intOf i).toNat)
  case atStart => exact ⟨0, 0, 0, none, by omega, rfl, rfl, by unfold pre; rw [if_pos (by omega)]; rfl, by omega, .inl ⟨rfl, by unfold pre; rw [if_pos (by omega)]; rfl, rfl⟩, B2.out⟩
  case round =>
   obtain ⟨j, t, c', A', hj, rfl, rfl, ht, htj, hm, br⟩ := hrel
   have BR := Lib.hid br
   have HM := Lib.hid (And.intro ht hm)
   clear br ht hm
   by_cases hlt : j < z
   ·have hjl : j < l.length := by have := HZ.out; omega
    have c0 := (HCC.out j hjl).1
    have c1 := (HCC.out j hjl).2
    by_cases hjk : j = k
    ·subst hjk
     have hp2 := pre_at (X := X) HKL.out.1
     by_cases t1 : m = n
     ·have HP := Lib.hid (show pre l j X (j + 1) = pre l j X j by rw [hp2, HX.out, if_pos t1, List.append_nil])
      have d1 := (BR.out.cell (lt_of_cell CK.out.2)).trans CK.out.2
      have hnm : ¬ n < m := by omega
      clear hp2 c0 c1 hjl
      go_wp2_with fail
      go_roundw
      case rel => exact ⟨j + 1, t, c', A', by omega, by go_num, rfl, by rw [HP.out]; exact HM.out.1, by omega, by rw [HP.out]; exact HM.out.2, BR.out⟩
      case measure => simp [intOf]; omega
     ·have hnm : n < m := by omega
      have HP := Lib.hid (show pre l j X (j + 1) = pre l j X j ++ [⟨p + n, m - n⟩] by rw [hp2, HX.out, if_neg t1])
      have d0 := (BR.out.cell (lt_of_cell CK.out.1)).trans CK.out.1
      have d1 := (BR.out.cell (lt_of_cell CK.out.2)).trans CK.out.2
      have hw1 : IntKind.i64.wrap (p + n) = p + n := by have := HK.out; rw [IntKind.wrap_i64]; omega
      have hw2 : IntKind.i64.wrap (m - n) = m - n := by have := HK.out; rw [IntKind.wrap_i64]; omega
      have hsz := BR.out.size
      have OWN := Lib.hid (mine_owns (w := wr.drew) (HM.out.2.keep fun g _ => rfl) HM.out.1 (.cells #[.int .i64 (p + n), .int .i64 (m - n)] 98))
      have NEW := Lib.hid (new_cells wr.drew (p + n) (m - n))
      have HS := Lib.hid (show ∀ W, Below w.heap.size w W → W.cell? ⟨bl, o + j * 2, none⟩ = some (.int .i64 p) ∧ W.cell? ⟨bl, o + j * 2 + 1, none⟩ = some (.int .i64 m) from fun W hW => ⟨(hW.cell (lt_of_cell CK.out.1)).trans CK.out.1, (hW.cell (lt_of_cell CK.out.2)).trans CK.out.2⟩)
      clear hp2 c0 c1 hjl t1
      go_wp2_with fail
      clear d0 d1
      refine wp_region_noPanic ?_
      refine wp_region_held_drew (S := fun W => W.cell? ⟨bl, o + j * 2, none⟩ = some (.int .i64 p) ∧ W.cell? ⟨bl, o + j * 2 + 1, none⟩ = some (.int .i64 m)) (by kernel_rfl) (HS.out _ BR.out.drew) (fun hHeld => ?_)
      refine tkA 0 (some 43) (Op.move (Operand.tmp 8)) 29 (v := ?_) rfl (by kernel_rfl) ?_ ‹_› ?_
      rotate_left
      ·(intro w h; (try dsimp only at h); go_simp) <;> with_reducible rfl
      (try simp only [Act.put, yI, yZ, yS])
      refine tkA 1 (some 44) (Op.move (Operand.tmp 0)) 29 (v := ?_) rfl (by kernel_rfl) ?_ ‹_› ?_
      rotate_left
      ·(intro w h; (try dsimp only at h); go_simp) <;> with_reducible rfl
      (try simp only [Act.put, yI, yZ, yS])
      refine tkA 2 (some 45) (Op.move (Operand.tmp 9)) 3 (v := ?_) rfl (by kernel_rfl) ?_ ‹_› ?_
      rotate_left
      ·(intro w h; (try dsimp only at h); go_simp) <;> with_reducible rfl
      (try simp only [Act.put, yI, yZ, yS])
      refine tkA 3 (some 46) (Op.indexAddr 29 (Operand.tmp 44) (Operand.tmp 45)) 0 (v := ?_) rfl (by kernel_rfl) ?_ ‹_› ?_
      rotate_left
      ·(intro w h; (try dsimp only at h); go_simp) <;> with_reducible rfl
      (try simp only [Act.put, yI, yZ, yS])
      refine tkA 4 (some 47) (Op.fieldAddr 98 (Operand.tmp 46) 0) 0 (v := ?_) rfl (by kernel_rfl) ?_ ‹_› ?_
      rotate_left
      ·(intro w h; (try dsimp only at h); go_simp) <;> with_reducible rfl
      (try simp only [Act.put, yI, yZ, yS])
      refine tkA 5 (some 48) (Op.load 3 (Operand.tmp 47)) 3 (v := ?_) rfl (by kernel_rfl) ?_ ‹_› ?_
      rotate_left
      ·(intro w h; (try dsimp only at h); go_simp) <;> with_reducible rfl
      (try simp only [Act.put, yI, yZ, yS])
      refine tkA 6 (some 49) (Op.move (Operand.tmp 1)) 3 (v := ?_) rfl (by kernel_rfl) ?_ ‹_› ?_
      rotate_left
      ·(intro w h; (try dsimp only at h); go_simp) <;> with_reducible rfl
      (try simp only [Act.put, yI, yZ, yS])
      refine tkA 7 (some 50) (Op.binOp BinOp.add 3 (Operand.tmp 48) (Operand.tmp 49) 3) 3 (v := ?_) rfl (by kernel_rfl) ?_ ‹_› ?_
      rotate_left
      ·(intro w h; (try dsimp only at h); go_simp) <;> with_reducible rfl
      (try simp only [Act.put, yI, yZ, yS])
      refine tkA 8 (some 51) (Op.move (Operand.tmp 0)) 29 (v := ?_) rfl (by kernel_rfl) ?_ ‹_› ?_
      rotate_left
      ·(intro w h; (try dsimp only at h); go_simp) <;> with_reducible rfl
      (try simp only [Act.put, yI, yZ, yS])
      refine tkA 9 (some 52) (Op.move (Operand.tmp 9)) 3 (v := ?_) rfl (by kernel_rfl) ?_ ‹_› ?_
      rotate_left
      ·(intro w h; (try dsimp only at h); go_simp) <;> with_reducible rfl
      (try simp only [Act.put, yI, yZ, yS])
      refine tkA 10 (some 53) (Op.indexAddr 29 (Operand.tmp 51) (Operand.tmp 52)) 0 (v := ?_) rfl (by kernel_rfl) ?_ ‹_› ?_
      rotate_left
      ·(intro w h; (try dsimp only at h); go_simp) <;> with_reducible rfl
      (try simp only [Act.put, yI, yZ, yS])
      refine tkA 11 (some 54) (Op.fieldAddr 98 (Operand.tmp 53) 1) 0 (v := ?_) rfl (by kernel_rfl) ?_ ‹_› ?_
      rotate_left
      ·(intro w h; (try dsimp only at h); go_simp) <;> with_reducible rfl
      (try simp only [Act.put, yI, yZ, yS])
      refine tkA 12 (some 55) (Op.load 3 (Operand.tmp 54)) 3 (v := ?_) rfl (by kernel_rfl) ?_ ‹_› ?_
      rotate_left
      ·(intro w h; (try dsimp only at h); go_simp) <;> with_reducible rfl
      (try simp only [Act.put, yI, yZ, yS])
      refine tkA 13 (some 56) (Op.move (Operand.tmp 1)) 3 (v := ?_) rfl (by kernel_rfl) ?_ ‹_› ?_
      rotate_left
      ·(intro w h; (try dsimp only at h); go_simp) <;> with_reducible rfl
      (try simp only [Act.put, yI, yZ, yS])
      refine tkA 14 (some 57) (Op.binOp BinOp.sub 3 (Operand.tmp 55) (Operand.tmp 56) 3) 3 (v := ?_) rfl (by kernel_rfl) ?_ ‹_› ?_
      rotate_left
      ·(intro w h; (try dsimp only at h); go_simp) <;> with_reducible rfl
      (try simp only [Act.put, yI, yZ, yS])
      refine tkA 15 (some 58) (Op.build 98 #[(0, Operand.tmp 50), (1, Operand.tmp 57)]) 98 (v := ?_) rfl (by kernel_rfl) ?_ ‹_› ?_
      rotate_left
      ·(intro w h; (try dsimp only at h); go_simp) <;> with_reducible rfl
      (try simp only [Act.put, yI, yZ, yS])
      refine rdA (rs := [16]) (by kernel_rfl) ?_ rfl
      refine rcA (some 59) (Op.buildSlice 29 1 #[(0, Operand.tmp 58)]) 29 rfl (by kernel_rfl) (fun K hK => ?_) AllReadyH.nil
      go_simp
      refine hK.out _ _ ?_ (fun hHeld => ?_)
      ·exact HS.out _ (BR.out.drew.alloc hsz _)
      clear hK K
      (try simp only [Act.put, yI, yZ, yS])
      refine rdA (rs := [17]) (by kernel_rfl) ?_ rfl
      refine AllReadyH.cons (o := ({ dst := some 60, op := Op.call { callee := Callee.builtin Builtin.append, args := #[Operand.tmp 43, Operand.tmp 59], argTypes := #[29, 29] }, type := 29, pos := "ref.go:51", after := #[{ on := 0, ground := Ground.data }, { on := 16, ground := Ground.data }], guard := none } : Oper)) rfl (fun K hK => ?_) AllReadyH.nil
      skip
      rw [if_pos (by rfl)]
      refine wp_append_lies _ (.tmp 43) (.tmp 59) 29 rfl w.heap.size 98 i0 (.agg #[.int .i64 0, .int .i64 0]) 2 16 Tryz.underlying29 HI.out.1 HI.out.2.1 HI.out.2.2.1 HI.out.2.2.2 rfl (by decide) (.slice A' t c') t (rc (pre l j X j)) (by simp [Act.eval]) OWN.out ⟨wr.heap.size, 0, none⟩ 1 1 (rc [⟨p + n, m - n⟩]) (by simp [Act.eval]) rfl NEW.out (rc_one _) (by omega) (by unfold maxLen; omega) (by omega) (by simp; omega) _ rfl ?_
      intro g1 c1 w4 hrow hgr hat hlt
      have HAP := Lib.hid (app_mine (W := wr.drew) (HM.out.2.keep fun g _ => rfl) HM.out.1 BR.out.drew hsz hrow hgr)
      clear hrow hgr hat hlt
      refine hK.out _ _ ?_ (fun hHeld => ?_)
      ·exact HS.out _ HAP.out.2
      clear hK K
      (try simp only [Act.put, yI, yZ, yS])
      refine tkA 18 (some 8) (Op.assign (Operand.tmp 60)) 29 (v := ?_) rfl (by kernel_rfl) ?_ ‹_› ?_
      rotate_left
      ·(intro w h; (try dsimp only at h); go_simp) <;> with_reducible rfl
      (try simp only [Act.put, yI, yZ, yS])
      refine wpAnyH_done (by kernel_rfl) ?_ _
      refine NoPanic.normal ?_
      go_wp2_with fail
      go_roundw
      case rel => exact ⟨j + 1, t + 1, c1, _, by omega, by go_num, rfl, by rw [HP.out, List.length_append, ← HM.out.1]; rfl, by omega, by rw [HP.out]; exact HAP.out.1, HAP.out.2⟩
      case measure => simp [intOf]; omega
    ·have HP := Lib.hid (pre_other (X := X) hjl hjk)
     obtain ⟨x, hx⟩ : ∃ x, x = l[j] := ⟨_, rfl⟩
     rw [← hx] at c0 c1 HP
     obtain ⟨xp, xn⟩ := x
     simp only at c0 c1
     have d0 := (BR.out.cell (lt_of_cell c0)).trans c0
     have d1 := (BR.out.cell (lt_of_cell c1)).trans c1
     have hne : ¬ ((j : Int) = (k : Int)) := by omega
     have hsz := BR.out.size
     have OWN := Lib.hid (mine_owns HM.out.2 HM.out.1 (.cells #[.int .i64 xp, .int .i64 xn] 98))
     have NEW := Lib.hid (new_cells wr xp xn)
     clear hx c0 c1 hjl hjk
     go_wp2_with (at_builtin; refine wpList_append_lies _ rfl _ _ 29 rfl w.heap.size 98 i0 (.agg #[.int .i64 0, .int .i64 0]) 2 16 Tryz.underlying29 HI.out.1 HI.out.2.1 HI.out.2.2.1 HI.out.2.2.2 rfl (by decide) (.slice A' t c') t (rc (pre l k X j)) rfl OWN.out ⟨wr.heap.size, 0, none⟩ 1 1 (rc [⟨xp, xn⟩]) rfl rfl NEW.out (rc_one _) (by omega) (by unfold maxLen; omega) (by omega) (by simp; omega) _ rfl ?_; intro g1 c1 w4 hrow hgr hat hlt; (have HAP := Lib.hid (app_mine HM.out.2 HM.out.1 BR.out hsz hrow hgr)); clear hrow hgr hat hlt)
     go_roundw
     case rel => exact ⟨j + 1, t + 1, c1, _, by omega, by go_num, rfl, by rw [HP.out, List.length_append, ← HM.out.1]; rfl, by omega, by rw [HP.out]; exact HAP.out.1, HAP.out.2⟩
     case measure => simp [intOf]; omega
   ·obtain rfl : j = z := by omega
    have d0 := (BR.out.cell (lt_of_cell CK.out.1)).trans CK.out.1
    have hz2 := HZ.out
    go_wp2_with fail
    refine bodyPost_ret (v := .tuple #[.int .i64 p, .slice A' t c', .bool true]) ?_ rfl ?_
    ·simp [results, go_sem]
    ·exact ⟨A', t, c', by rw [HR.out.1, HR.out.2.2], by rw [HR.out.2.1, ← HZ.out]; exact HM.out.1, by rw [HR.out.2.1, ← HZ.out]; exact HM.out.2.runs, BR.out, HM.out.2.fresh⟩
end Go.Proofs.YtmboibipabkhaaaGreat
