/-
  The document's All of chunks that are kept.
-/
import Derived.Test.YtmboibipabkhaaaGreatKxK0
import Derived.Test.YtmboibipabkhaaaGreatKxRg9
namespace Go.Proofs.YtmboibipabkhaaaGreat
open Go.ChangeShapes Go.WideShapes Go.ChangeAt Go.RowKit Go.Deep
set_option linter.unusedVariables false
set_option maxRecDepth 20000
def upTo (l : List M.R) (k i : Nat) : List M.R := M.allTo (M.sel l) k ++ (M.sel (l.take i) k).map fun p => ⟨p, M.pg k⟩
theorem upTo_zero (l : List M.R) (k : Nat) : upTo l k 0 = M.allTo (M.sel l) k := by simp [upTo, M.sel]
theorem upTo_end (l : List M.R) (k i : Nat) (h : l.length ≤ i) : upTo l k i = M.allTo (M.sel l) (k + 1) := by
 unfold upTo
 rw [List.take_of_length_le h]
 rfl
theorem upTo_yes (l : List M.R) (k i : Nat) (h : i < l.length) (e : l[i].p = k) : upTo l k (i + 1) = upTo l k i ++ [⟨l[i].n, M.pg k⟩] := by
 unfold upTo
 rw [M.sel_take_succ l i h, if_pos e]
 simp
theorem upTo_no (l : List M.R) (k i : Nat) (h : i < l.length) (e : l[i].p ≠ k) : upTo l k (i + 1) = upTo l k i := by
 unfold upTo
 rw [M.sel_take_succ l i h, if_neg e, List.append_nil]
def GotL (w : World) (l : List M.R) (e : Ending) (w' : World) : Prop := ∃ A' z' c', e = .returned (.slice A' z' c') ∧ z' = l.length ∧ Runs w' A' l ∧ Below w.heap.size w w' ∧ ∀ a, A' = some a → w.heap.size ≤ a.block
set_option maxHeartbeats 8000000 in
theorem rfall_any (w : World) (A : Option Addr) (l : List M.R) (z c : Nat) (hz : z = l.length) (hA : Runs w A l) (hl : z ≤ 1000) (hg : M.Good (M.sel l)) :
  Calls Tryz.prog 16 #[.slice A z c] w (GotL w (M.all (M.sel l))) := by
 have HZ := Lib.hid hz
 have HA := Lib.hid hA
 have HG := Lib.hid hg
 obtain ⟨i0, hi, hi0, hi1, hi2⟩ := info36
 have HI := Lib.hid (And.intro hi (And.intro hi0 (And.intro hi1 hi2)))
 clear hz hA hi hi0 hi1 hi2 hg
 go_enter Tryz.func16, Tryz.ntmps16
 go_wp2_with fail
 go_loopw [3, 4, 5] (fun v k _ wr => ∃ (kk : Nat) (A' : Option Addr) (t c' : Nat), kk ≤ 7 ∧ k = .int .i64 (kk : Int) ∧ v = .slice A' t c' ∧ t = (M.allTo (M.sel l) kk).length ∧ wr.ownsRow w.heap.size 98 2 (.slice A' t c') t (rc (M.allTo (M.sel l) kk)) ∧ Below w.heap.size w wr) (fun _ k _ _ => 7 - (intOf k).toNat)
 case atStart => exact ⟨0, none, 0, 0, by omega, rfl, rfl, rfl, World.ownsRow_nil _ _ _ _, Below.refl _ _⟩
 case round =>
  obtain ⟨k, A', t, c', hk, rfl, rfl, ht, hown, hb⟩ := hrel
  have H0 := Lib.hid (show t = (upTo l k 0).length ∧ wr.ownsRow w.heap.size 98 2 (.slice A' t c') t (rc (upTo l k 0)) ∧ Below w.heap.size w wr from ⟨by rw [upTo_zero]; exact ht, by rw [upTo_zero]; exact hown, hb⟩)
  have H1 := Lib.hid (And.intro ht (And.intro hown hb))
  have ht28 : t ≤ 28 := by have := M.allTo_length HG.out k; omega
  clear ht hown hb
  by_cases hlt : k < 7
  ·have d7 : decide ((k : Int) < 7) = true := by simp; omega
   obtain ⟨q, hq⟩ : ∃ q : Int, M.pg (k : Int) = q := ⟨_, rfl⟩
   have HQ := Lib.hid hq
   clear hq H1
   go_wp2_with fail
   rename_i wo
   go_loopw [3, 5] (fun v i wr => ∃ (ii : Nat) (A' : Option Addr) (t c' : Nat), ii ≤ z ∧ i = .int .i64 (ii : Int) ∧ v = .slice A' t c' ∧ t = (upTo l k ii).length ∧ t ≤ 28 + ii ∧ wr.ownsRow w.heap.size 98 2 (.slice A' t c') t (rc (upTo l k ii)) ∧ Below w.heap.size w wr) (fun _ i _ => z - (intOf i).toNat)
   case atStart => exact ⟨0, _, _, _, by omega, rfl, rfl, H0.out.1, by omega, H0.out.2.1, H0.out.2.2⟩
   case round =>
    clear H0 ht28
    obtain ⟨i, A', t, c', hi, rfl, rfl, ht, hti, hown, hb⟩ := hrel
    have HT := Lib.hid ht
    have HO := Lib.hid hown
    have HB := Lib.hid hb
    clear ht hown hb
    by_cases hli : i < z
    ·have hil : i < l.length := by have := HZ.out; omega
     obtain ⟨bl, o, rfl, hc⟩ := HA.out (by omega)
     have c0 := (HB.out.cell (lt_of_cell (hc i hil).1)).trans (hc i hil).1
     obtain ⟨y, hy⟩ : ∃ y, y = l[i].p := ⟨_, rfl⟩
     rw [← hy] at c0
     by_cases e : y = (k : Int)
     ·have ts := upTo_yes l k i hil (by rw [← hy]; exact e)
      have c1 := (hc i hil).2
      obtain ⟨x, hx⟩ : ∃ x, x = l[i].n := ⟨_, rfl⟩
      rw [← hx] at c1 ts
      rw [HQ.out] at ts
      have TS := Lib.hid ts
      have HS := Lib.hid (show ∀ W, Below w.heap.size w W → W.cell? ⟨bl, o + i * 2 + 1, none⟩ = some (.int .i64 x) from fun W hW => (hW.cell (lt_of_cell c1)).trans c1)
      obtain ⟨L, hL⟩ : ∃ L, L = upTo l k i := ⟨_, rfl⟩
      have HL := Lib.hid hL
      have HTL := Lib.hid (show t = L.length by rw [hL]; exact HT.out)
      have HO2 := HO.out
      rw [← hL] at HO2
      have hsz : w.heap.size ≤ wr.drew.heap.size := HB.out.size
      have OWN := Lib.hid (show (wr.drew.alloc (.cells #[.int .i64 x, .int .i64 q] 98)).ownsRow w.heap.size 98 2 (.slice A' t c') t (rc L) from World.ownsRow.alloc (w := wr.drew) HO2 _)
      have NEW := Lib.hid (newR wr.drew x q)
      have hml : t + 1 ≤ maxLen := by unfold maxLen; omega
      have hby : (t + 1) * 16 ≤ 140737488355328 := by omega
      subst e
      clear hy hx hc c1 ts hL hil HO2
      go_wp2_with fail
      clear c0
      refine wp_region_noPanic ?_
      refine wp_region_held_drew (S := fun W => W.cell? ⟨bl, o + i * 2 + 1, none⟩ = some (.int .i64 x)) (by kernel_rfl) (HS.out _ HB.out.drew) (fun hHeld => ?_)
      refine tkA 0 (some 23) (Op.move (Operand.tmp 3)) 29 (v := ?_) rfl (by kernel_rfl) ?_ ‹_› ?_
      rotate_left
      ·(intro w h; (try dsimp only at h); go_simp) <;> with_reducible rfl
      (try simp only [Act.put, yI, yZ, yS])
      refine tkA 1 (some 24) (Op.move (Operand.tmp 0)) 32 (v := ?_) rfl (by kernel_rfl) ?_ ‹_› ?_
      rotate_left
      ·(intro w h; (try dsimp only at h); go_simp) <;> with_reducible rfl
      (try simp only [Act.put, yI, yZ, yS])
      refine tkA 2 (some 25) (Op.move (Operand.tmp 5)) 3 (v := ?_) rfl (by kernel_rfl) ?_ ‹_› ?_
      rotate_left
      ·(intro w h; (try dsimp only at h); go_simp) <;> with_reducible rfl
      (try simp only [Act.put, yI, yZ, yS])
      refine tkA 3 (some 26) (Op.indexAddr 32 (Operand.tmp 24) (Operand.tmp 25)) 0 (v := ?_) rfl (by kernel_rfl) ?_ ‹_› ?_
      rotate_left
      ·(intro w h; (try dsimp only at h); go_simp) <;> with_reducible rfl
      (try simp only [Act.put, yI, yZ, yS])
      refine tkA 4 (some 27) (Op.fieldAddr 100 (Operand.tmp 26) 1) 0 (v := ?_) rfl (by kernel_rfl) ?_ ‹_› ?_
      rotate_left
      ·(intro w h; (try dsimp only at h); go_simp) <;> with_reducible rfl
      (try simp only [Act.put, yI, yZ, yS])
      refine tkA 5 (some 28) (Op.load 3 (Operand.tmp 27)) 3 (v := ?_) rfl (by kernel_rfl) ?_ ‹_› ?_
      rotate_left
      ·(intro w h; (try dsimp only at h); go_simp) <;> with_reducible rfl
      (try simp only [Act.put, yI, yZ, yS])
      refine tkA 6 (some 29) (Op.move (Operand.tmp 4)) 3 (v := ?_) rfl (by kernel_rfl) ?_ ‹_› ?_
      rotate_left
      ·(intro w h; (try dsimp only at h); go_simp) <;> with_reducible rfl
      (try simp only [Act.put, yI, yZ, yS])
      refine rdA (rs := [7]) (by kernel_rfl) ?_ rfl
      refine rcA (some 30) (Op.call { callee := Callee.value (Operand.func 29), args := #[Operand.tmp 29], argTypes := #[3] }) 3 rfl (by kernel_rfl) (fun K hK => ?_) AllReadyH.nil
      go_simp
      refine (rcpages_at (k : Int) q rfl HQ.out _).mono ?_
      rintro e y1 ⟨rfl, rfl⟩
      go_wp2_with fail
      refine hK.out _ _ ?_ (fun hHeld => ?_)
      ·exact HS.out _ HB.out.drew
      clear hK K
      (try simp only [Act.put, yI, yZ, yS])
      refine tkA 8 (some 31) (Op.build 98 #[(0, Operand.tmp 28), (1, Operand.tmp 30)]) 98 (v := ?_) rfl (by kernel_rfl) ?_ ‹_› ?_
      rotate_left
      ·(intro w h; (try dsimp only at h); go_simp) <;> with_reducible rfl
      (try simp only [Act.put, yI, yZ, yS])
      refine rdA (rs := [9]) (by kernel_rfl) ?_ rfl
      refine rcA (some 32) (Op.buildSlice 29 1 #[(0, Operand.tmp 31)]) 29 rfl (by kernel_rfl) (fun K hK => ?_) AllReadyH.nil
      go_simp
      refine hK.out _ _ ?_ (fun hHeld => ?_)
      ·exact HS.out _ (HB.out.drew.alloc hsz _)
      clear hK K
      (try simp only [Act.put, yI, yZ, yS])
      refine rdA (rs := [10]) (by kernel_rfl) ?_ rfl
      refine AllReadyH.cons (o := ({ dst := some 33, op := Op.call { callee := Callee.builtin Builtin.append, args := #[Operand.tmp 23, Operand.tmp 32], argTypes := #[29, 29] }, type := 29, pos := "ref.go:63", after := #[{ on := 0, ground := Ground.data }, { on := 9, ground := Ground.data }, { on := 7, ground := Ground.chain }], guard := none } : Oper)) rfl (fun K hK => ?_) AllReadyH.nil
      skip
      rw [if_pos (by rfl)]
      refine wp_append_lies _ (.tmp 23) (.tmp 32) 29 rfl w.heap.size 98 i0 (.agg #[.int .i64 0, .int .i64 0]) 2 16 Tryz.underlying29 HI.out.1 HI.out.2.1 HI.out.2.2.1 HI.out.2.2.2 rfl (by decide) (.slice A' t c') t (rc L) (by simp [Act.eval]) OWN.out ⟨wr.heap.size, 0, none⟩ 1 1 (rc [⟨x, q⟩]) (by simp [Act.eval]) rfl NEW.out (rc_one _) (by omega) hml hby (Nat.le_trans hsz (le_alloc _ _)) _ rfl ?_
      intro g5 c5 w5 hrow hgr hat hlt5
      have R5 := Lib.hid (show w5.ownsRow w.heap.size 98 2 (.slice (some ⟨g5, 0, none⟩) (t + 1) c5) (t + 1) (rc (L ++ [⟨x, q⟩])) ∧ Below w.heap.size w w5 from ⟨by rw [rc_append]; exact hrow, (HB.out.drew.alloc hsz _).grown hgr (Nat.le_trans hsz (le_alloc _ _)) (own_low OWN.out)⟩)
      clear hrow hgr hat hlt5
      refine hK.out _ _ ?_ (fun hHeld => ?_)
      ·exact HS.out _ R5.out.2
      clear hK K
      (try simp only [Act.put, yI, yZ, yS])
      refine tkA 11 (some 3) (Op.assign (Operand.tmp 33)) 29 (v := ?_) rfl (by kernel_rfl) ?_ ‹_› ?_
      rotate_left
      ·(intro w h; (try dsimp only at h); go_simp) <;> with_reducible rfl
      (try simp only [Act.put, yI, yZ, yS])
      refine wpAnyH_done (by kernel_rfl) ?_ _
      refine NoPanic.normal ?_
      go_wp2_with fail
      go_roundw
      case rel => exact ⟨i + 1, _, t + 1, c5, by omega, by go_num, rfl, by rw [TS.out, ← HL.out, List.length_append, ← HTL.out]; rfl, by omega, by rw [TS.out, ← HL.out]; exact R5.out.1, R5.out.2⟩
      case measure => simp [intOf]; omega
     ·have ts := upTo_no l k i hil (by rw [← hy]; exact e)
      have ee : (y == (k : Int)) = false := by simp [e]
      have TS := Lib.hid ts
      clear hy hc ts e hil
      go_wp2_with fail
      go_roundw
      case rel => exact ⟨i + 1, _, t, c', by omega, by go_num, rfl, by rw [TS.out]; exact HT.out, by omega, by rw [TS.out]; exact HO.out, HB.out⟩
      case measure => simp [intOf]; omega
    ·have ue := upTo_end l k i (by have := HZ.out; omega)
     have UE := Lib.hid ue
     clear ue
     go_wp2_with fail
     go_roundw
     case rel => exact ⟨k + 1, _, t, c', by omega, by go_num, rfl, by rw [← UE.out]; exact HT.out, by rw [← UE.out]; exact HO.out, HB.out⟩
     case measure => simp [intOf]; omega
  ·have e7 : k = 7 := by omega
   subst e7
   have RES := Lib.hid (show GotL w (M.all (M.sel l)) (.returned (.slice A' t c')) wr from ⟨A', t, c', rfl, H1.out.1, own_runs H1.out.2.1 H1.out.1, H1.out.2.2, fun a e => (own_new H1.out.2.1 a e).1⟩)
   clear H0 H1
   go_wp2_with fail
   go_ret
   exact RES.out
end Go.Proofs.YtmboibipabkhaaaGreat
