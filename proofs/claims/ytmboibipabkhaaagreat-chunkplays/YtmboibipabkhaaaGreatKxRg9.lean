/-
  The document's Pop and All of chunks that are kept.
-/
import Derived.Test.YtmboibipabkhaaaGreatKxK0
import Derived.Test.YtmboibipabkhaaaGreatKxRf9
namespace Go.Proofs.YtmboibipabkhaaaGreat
open Go.ChangeShapes Go.WideShapes Go.ChangeAt Go.RowKit Go.Deep
set_option linter.unusedVariables false
set_option maxRecDepth 20000
theorem newR (w : World) (p q : Int) : ∀ j u, (rc [⟨p, q⟩])[j]? = some u → (w.alloc (.cells #[.int .i64 p, .int .i64 q] 98)).cell? ((⟨w.heap.size, 0, none⟩ : Addr).add j) = some u := fun j u hu => by
 rw [Addr.add_lit, Nat.zero_add, World.cell?_alloc_mark, ← hu, show rc [⟨p, q⟩] = [.int .i64 p, .int .i64 q] from rfl]
 simp
theorem part_news {w : World} {bl o : Nat} {l : List M.R} (h : ∀ i (h : i < l.length), w.cell? ⟨bl, o + i * 2, none⟩ = some (.int .i64 l[i].p) ∧ w.cell? ⟨bl, o + i * 2 + 1, none⟩ = some (.int .i64 l[i].n)) (k : Nat) :
  ∀ j u, (rc (l.drop k))[j]? = some u → w.cell? ((⟨bl, o + k * 2, none⟩ : Addr).add j) = some u := fun j u hu => by
 rw [Addr.add_lit]
 have h2 : ∀ i (h' : i < (l.drop k).length), w.cell? ⟨bl, o + k * 2 + i * 2, none⟩ = some (.int .i64 (l.drop k)[i].p) ∧ w.cell? ⟨bl, o + k * 2 + i * 2 + 1, none⟩ = some (.int .i64 (l.drop k)[i].n) := fun i h' => by
  have hk : k + i < l.length := by rw [List.length_drop] at h'; omega
  have := h (k + i) hk
  rw [List.getElem_drop, show o + k * 2 + i * 2 = o + (k + i) * 2 by omega]
  exact this
 exact runs_cells h2 j u hu
theorem head_news {w : World} {bl o : Nat} {l : List M.R} (h : ∀ i (h : i < l.length), w.cell? ⟨bl, o + i * 2, none⟩ = some (.int .i64 l[i].p) ∧ w.cell? ⟨bl, o + i * 2 + 1, none⟩ = some (.int .i64 l[i].n)) (k : Nat) :
  ∀ j u, (rc (l.take k))[j]? = some u → w.cell? ((⟨bl, o, none⟩ : Addr).add j) = some u := fun j u hu => by
 refine runs_news h j u ?_
 rw [rc_take, List.getElem?_take] at hu
 split at hu
 ·exact hu
 ·cases hu
theorem cells_below {w w' : World} {bl o : Nat} {l : List M.R} (h : ∀ i (h : i < l.length), w.cell? ⟨bl, o + i * 2, none⟩ = some (.int .i64 l[i].p) ∧ w.cell? ⟨bl, o + i * 2 + 1, none⟩ = some (.int .i64 l[i].n)) (hb : Below w.heap.size w w') :
 ∀ i (h : i < l.length), w'.cell? ⟨bl, o + i * 2, none⟩ = some (.int .i64 l[i].p) ∧ w'.cell? ⟨bl, o + i * 2 + 1, none⟩ = some (.int .i64 l[i].n) := fun i hi => ⟨(hb.cell (lt_of_cell (h i hi).1)).trans (h i hi).1, (hb.cell (lt_of_cell (h i hi).2)).trans (h i hi).2⟩
def GotP (w : World) (A : Option Addr) (l : List M.R) (cl : Int) (e : Ending) (w' : World) : Prop :=
 ∃ l', GotE w A l' (fun v => .tuple #[v, .int .i64 (M.popV (M.sel l) cl), .bool (M.popB (M.sel l) cl)]) e w' ∧ M.sel l' = M.popF (M.sel l) cl ∧ l'.length ≤ l.length
set_option maxHeartbeats 8000000 in
theorem rfpop_any (w : World) (A : Option Addr) (l : List M.R) (z c : Nat) (hz : z = l.length) (hA : Runs w A l) (hl : z ≤ 1000) (hzc : z ≤ c) (cl : Int) :
  Calls Tryz.prog 30 #[.slice A z c, .int .i64 cl] w (GotP w A l cl) := by
 have HZ := Lib.hid hz
 have HA := Lib.hid hA
 obtain ⟨i0, hi, hi0, hi1, hi2⟩ := infoE
 have HI := Lib.hid (And.intro hi (And.intro hi0 (And.intro hi1 hi2)))
 clear hz hA hi hi0 hi1 hi2
 go_enter Tryz.func30, Tryz.ntmps30
 have ws : wrap64 ((z : Int) - 1) = (z : Int) - 1 := by unfold wrap64; omega
 go_wp2_with fail
 clear ws
 go_loop [7] (fun i => ∃ (m : Nat) (s : Int), m ≤ z ∧ s = (m : Int) - 1 ∧ i = .int .i64 s ∧ ∀ j (h : j < l.length), m ≤ j → l[j].p ≠ cl) (fun i => (intOf i + 1).toNat)
 case atStart => exact ⟨z, _, by omega, rfl, rfl, fun j h hm => by have := HZ.out; omega⟩
 case round =>
  obtain ⟨m, s, hm, hs, rfl, hno⟩ := hrel
  have NO := Lib.hid hno
  clear hno
  rcases Nat.eq_zero_or_pos m with h0 | h0
  ·subst h0
   have es : s = -1 := by omega
   subst es
   have e0 : M.sel l cl = [] := M.sel_none fun r hr => by
    obtain ⟨j, hj, rfl⟩ := List.getElem_of_mem hr
    exact NO.out j hj (by omega)
   obtain ⟨e1, e2⟩ := M.pop_nil e0
   have RES := Lib.hid (show GotP w A l cl (.returned (.tuple #[.slice A z c, .int .i64 0, .bool false])) w from ⟨l, ⟨A, z, c, by rw [e1, e2], HZ.out, hzc, HA.out, Below.refl _ _, .inl rfl⟩, (M.popF_no _ _ e2).symm, Nat.le_refl _⟩)
   clear hs e0 e1 e2
   go_wp2_with fail
   refine bodyPost_ret (v := .tuple #[.slice A z c, .int .i64 0, .bool false]) ?_ rfl ?_
   ·simp [results, go_sem]
   ·exact RES.out
  ·obtain ⟨y, rfl⟩ : ∃ y, m = y + 1 := ⟨m - 1, by omega⟩
   have es : s = (y : Int) := by omega
   subst es
   have hyl : y < l.length := by have := HZ.out; omega
   have hyz : y < z := by omega
   obtain ⟨bl, o, rfl, hc⟩ := HA.out (by omega)
   have c0 := (hc y hyl).1
   obtain ⟨k, hk⟩ : ∃ k, k = l[y].p := ⟨_, rfl⟩
   obtain ⟨x, hx⟩ : ∃ x, x = l[y].n := ⟨_, rfl⟩
   have c1 := (hc y hyl).2
   rw [← hk] at c0
   rw [← hx] at c1
   by_cases e : k = cl
   ·obtain ⟨e1, e2, e3⟩ := M.sel_pop y hyl (by rw [← hk]; exact e) (fun j h hj => NO.out j h (by omega))
    rw [← hx] at e1
    obtain ⟨y1, hy1⟩ : ∃ y1, y1 = y + 1 := ⟨_, rfl⟩
    rw [← hy1] at e3
    have FIN := Lib.hid (show ∀ (A5 : Option Addr) (n5 c5 : Nat) (w5 : World), w5.ownsRow w.heap.size 100 2 (.slice A5 n5 c5) n5 (rc (l.take y ++ l.drop y1)) → Below w.heap.size w w5 → n5 + 1 = z → GotP w (some ⟨bl, o, none⟩) l cl (.returned (.tuple #[.slice A5 n5 c5, .int .i64 x, .bool true])) w5 from fun A5 n5 c5 w5 h1 h2 h3 => by
     have hln : n5 = (l.take y ++ l.drop y1).length := by have := HZ.out; rw [List.length_append, List.length_take, List.length_drop]; omega
     exact ⟨_, ⟨A5, n5, c5, by rw [e1, e2], hln, own_cap h1, own_runs h1 hln, h2, .inr (own_new h1)⟩, e3.symm, by have := HZ.out; omega⟩)
    have HS := Lib.hid (show ∀ W, Below w.heap.size w W → W.cell? ⟨bl, o + y * 2 + 1, none⟩ = some (.int .i64 x) from fun W hW => (hW.cell (lt_of_cell c1)).trans c1)
    have NW1 := Lib.hid (And.intro (show (rc (l.take y)).length = y * 2 by rw [rc_length, List.length_take, Nat.min_eq_left (by omega)]) (head_news hc y))
    have OWN0 := Lib.hid (World.ownsRow_nil w w.heap.size 100 2)
    have HCC := Lib.hid hc
    have hyc : y ≤ c := by omega
    have hyc' : (y : Int) ≤ (c : Int) := by omega
    subst e
    clear hk hx hc e1 e2 e3 NO hs c1 h0
    go_upto_region 7 with (at_builtin; refine wpList_append_own _ rfl _ _ 32 rfl w.heap.size 100 i0 (.agg #[.int .i64 0, .int .i64 0]) 2 16 Tryz.underlying32 HI.out.1 HI.out.2.1 HI.out.2.2.1 HI.out.2.2.2 rfl (by decide) (.slice none 0 0) 0 [] rfl OWN0.out ⟨bl, o, none⟩ y c (rc (l.take y)) rfl NW1.out.1 NW1.out.2 (rc_one _) (by unfold maxLen; omega) (by omega) (Nat.le_refl _) ?_; intro v4 w4 hrow hgr hnil; simp only [Nat.zero_add, List.nil_append] at hrow; obtain ⟨A', c', rfl⟩ := own_form hrow; (have H4 := Lib.hid (show w4.ownsRow w.heap.size 100 2 (.slice A' y c') y (rc (l.take y)) ∧ Below w.heap.size w w4 from ⟨hrow, (Below.refl _ _).grown hgr (Nat.le_refl _) (fun k hk => by simp [Value.ownBlock] at hk)⟩)); clear hrow hgr hnil)
    clear c0 OWN0 NW1
    have hsz : w.heap.size ≤ w4.drew.heap.size := H4.out.2.size
    have OWN := Lib.hid (show w4.drew.ownsRow w.heap.size 100 2 (.slice A' y c') y (rc (l.take y)) from H4.out.1)
    have HW1 := Lib.hid (show IntKind.i64.wrap ((y : Int) + 1) = (y1 : Int) by rw [IntKind.wrap_i64]; omega)
    have hy1z : y1 ≤ z := by omega
    have hy1c : y1 ≤ c := by omega
    have hyz' : y < z := by omega
    obtain ⟨m2, hm2⟩ : ∃ m2, z - y1 = m2 := ⟨_, rfl⟩
    by_cases ec : c = y1
    ·have hm0 : m2 = 0 := by omega
     have NW2 := Lib.hid (show (rc (l.drop y1)).length = 0 * 2 ∧ ∀ j u, (rc (l.drop y1))[j]? = some u → w4.drew.cell? ((⟨bl, o, none⟩ : Addr).add j) = some u from by
      have : l.drop y1 = [] := List.drop_of_length_le (by have := HZ.out; omega)
      rw [this, rc_nil]
      exact ⟨rfl, fun j u h => by simp at h⟩)
     subst hm0
     have hcy : c - y1 = 0 := by omega
     have hfin : y + 0 + 1 = z := by omega
     have hml : y + 0 ≤ maxLen := by unfold maxLen; omega
     have hby : (y + 0) * 16 ≤ 140737488355328 := by omega
     clear HCC hy1
     have hw1 := HW1.out
     refine wp_region_noPanic ?_
     refine wp_region_held_drew (S := fun W => W.cell? ⟨bl, o + y * 2 + 1, none⟩ = some (.int .i64 x)) (by kernel_rfl) (HS.out _ H4.out.2.drew) (fun hHeld => ?_)
     refine tkA 0 (some 28) (Op.move (Operand.tmp 8)) 32 (v := ?_) rfl (by kernel_rfl) ?_ ‹_› ?_
     rotate_left
     ·(intro w h; (try dsimp only at h); go_simp) <;> with_reducible rfl
     (try simp only [Act.put, yI, yZ, yS])
     refine tkA 1 (some 29) (Op.move (Operand.tmp 0)) 32 (v := ?_) rfl (by kernel_rfl) ?_ ‹_› ?_
     rotate_left
     ·(intro w h; (try dsimp only at h); go_simp) <;> with_reducible rfl
     (try simp only [Act.put, yI, yZ, yS])
     refine tkA 2 (some 30) (Op.move (Operand.tmp 7)) 3 (v := ?_) rfl (by kernel_rfl) ?_ ‹_› ?_
     rotate_left
     ·(intro w h; (try dsimp only at h); go_simp) <;> with_reducible rfl
     (try simp only [Act.put, yI, yZ, yS])
     refine tkA 3 (some 31) (Op.binOp BinOp.add 3 (Operand.tmp 30) (Operand.const (Value.int IntKind.i64 1)) 3) 3 (v := ?_) rfl (by kernel_rfl) ?_ ‹_› ?_
     rotate_left
     ·(intro w h; (try dsimp only at h); go_simp) <;> with_reducible rfl
     (try simp only [Act.put, yI, yZ, yS])
     refine tkA 4 (some 32) (Op.slice 32 (Operand.tmp 29) (some (Operand.tmp 31)) none none) 32 (v := ?_) rfl (by kernel_rfl) ?_ ‹_› ?_
     rotate_left
     ·(intro w h; (try dsimp only at h); go_simp) <;> with_reducible rfl
     (try simp only [Act.put, yI, yZ, yS])
     refine tkA 6 (some 34) (Op.move (Operand.tmp 0)) 32 (v := ?_) rfl (by kernel_rfl) ?_ ‹_› ?_
     rotate_left
     ·(intro w h; (try dsimp only at h); go_simp) <;> with_reducible rfl
     (try simp only [Act.put, yI, yZ, yS])
     refine tkA 7 (some 35) (Op.move (Operand.tmp 7)) 3 (v := ?_) rfl (by kernel_rfl) ?_ ‹_› ?_
     rotate_left
     ·(intro w h; (try dsimp only at h); go_simp) <;> with_reducible rfl
     (try simp only [Act.put, yI, yZ, yS])
     refine tkA 8 (some 36) (Op.indexAddr 32 (Operand.tmp 34) (Operand.tmp 35)) 0 (v := ?_) rfl (by kernel_rfl) ?_ ‹_› ?_
     rotate_left
     ·(intro w h; (try dsimp only at h); go_simp) <;> with_reducible rfl
     (try simp only [Act.put, yI, yZ, yS])
     refine tkA 9 (some 37) (Op.fieldAddr 100 (Operand.tmp 36) 1) 0 (v := ?_) rfl (by kernel_rfl) ?_ ‹_› ?_
     rotate_left
     ·(intro w h; (try dsimp only at h); go_simp) <;> with_reducible rfl
     (try simp only [Act.put, yI, yZ, yS])
     refine tkA 10 (some 38) (Op.load 3 (Operand.tmp 37)) 3 (v := ?_) rfl (by kernel_rfl) ?_ ‹_› ?_
     rotate_left
     ·(intro w h; (try dsimp only at h); go_simp) <;> with_reducible rfl
     (try simp only [Act.put, yI, yZ, yS])
     refine rdA (rs := [5]) (by kernel_rfl) ?_ rfl
     refine AllReadyH.cons (o := ({ dst := some 33, op := Op.call { callee := Callee.builtin Builtin.append, args := #[Operand.tmp 28, Operand.tmp 32], argTypes := #[32, 32] }, type := 32, pos := "ref.go:42", after := #[{ on := 0, ground := Ground.data }, { on := 4, ground := Ground.data }], guard := none } : Oper)) rfl (fun K hK => ?_) AllReadyH.nil
     skip
     rw [if_pos (by rfl)]
     refine wp_append_own _ (.tmp 28) (.tmp 32) 32 rfl w.heap.size 100 i0 (.agg #[.int .i64 0, .int .i64 0]) 2 16 Tryz.underlying32 HI.out.1 HI.out.2.1 HI.out.2.2.1 HI.out.2.2.2 rfl (by decide) (.slice A' y c') y (rc (l.take y)) (by simp [Act.eval]) OWN.out ⟨bl, o, none⟩ 0 0 (rc (l.drop y1)) (by simp [Act.eval]) NW2.out.1 NW2.out.2 (rc_one _) hml hby hsz ?_
     intro v5 w5 hrow hgr hnil
     obtain ⟨A5, c5, rfl⟩ := own_form (l := l.take y ++ l.drop y1) (by rw [rc_append]; exact hrow)
     have R5 := Lib.hid (show w5.ownsRow w.heap.size 100 2 (.slice A5 (y + 0) c5) (y + 0) (rc (l.take y ++ l.drop y1)) ∧ Below w.heap.size w w5 from ⟨by rw [rc_append]; exact hrow, H4.out.2.drew.grown hgr hsz (own_low OWN.out)⟩)
     clear hrow hgr hnil
     refine hK.out _ _ ?_ (fun hHeld => ?_)
     ·exact HS.out _ R5.out.2
     clear hK K
     (try simp only [Act.put, yI, yZ, yS])
     refine tkA 11 (some 4) (Op.assign (Operand.tmp 33)) 32 (v := ?_) rfl (by kernel_rfl) ?_ ‹_› ?_
     rotate_left
     ·(intro w h; (try dsimp only at h); go_simp) <;> with_reducible rfl
     (try simp only [Act.put, yI, yZ, yS])
     refine tkA 12 (some 5) (Op.assign (Operand.tmp 38)) 3 (v := ?_) rfl (by kernel_rfl) ?_ ‹_› ?_
     rotate_left
     ·(intro w h; (try dsimp only at h); go_simp) <;> with_reducible rfl
     (try simp only [Act.put, yI, yZ, yS])
     refine tkA 13 (some 6) (Op.assign (Operand.const (Value.bool true))) 4 (v := ?_) rfl (by kernel_rfl) ?_ ‹_› ?_
     rotate_left
     ·(intro w h; (try dsimp only at h); go_simp) <;> with_reducible rfl
     (try simp only [Act.put, yI, yZ, yS])
     refine wpAnyH_done (by kernel_rfl) ?_ _
     refine NoPanic.normal ?_
     clear hw1
     go_wp2_with fail
     refine bodyPost_ret (v := .tuple #[.slice A5 (y + 0) c5, .int .i64 x, .bool true]) ?_ rfl ?_
     ·simp [results, go_sem]
     ·exact FIN.out A5 (y + 0) c5 w5 R5.out.1 R5.out.2 hfin
    ·have NW2 := Lib.hid (And.intro (show (rc (l.drop y1)).length = m2 * 2 by rw [rc_length, List.length_drop, ← HZ.out, hm2]) (part_news (w := w4.drew) (cells_below HCC.out H4.out.2.drew) y1))
     have hfin : y + m2 + 1 = z := by omega
     have hml : y + m2 ≤ maxLen := by unfold maxLen; omega
     have hby : (y + m2) * 16 ≤ 140737488355328 := by omega
     clear HCC hy1
     have hw1 := HW1.out
     refine wp_region_noPanic ?_
     refine wp_region_held_drew (S := fun W => W.cell? ⟨bl, o + y * 2 + 1, none⟩ = some (.int .i64 x)) (by kernel_rfl) (HS.out _ H4.out.2.drew) (fun hHeld => ?_)
     refine tkA 0 (some 28) (Op.move (Operand.tmp 8)) 32 (v := ?_) rfl (by kernel_rfl) ?_ ‹_› ?_
     rotate_left
     ·(intro w h; (try dsimp only at h); go_simp) <;> with_reducible rfl
     (try simp only [Act.put, yI, yZ, yS])
     refine tkA 1 (some 29) (Op.move (Operand.tmp 0)) 32 (v := ?_) rfl (by kernel_rfl) ?_ ‹_› ?_
     rotate_left
     ·(intro w h; (try dsimp only at h); go_simp) <;> with_reducible rfl
     (try simp only [Act.put, yI, yZ, yS])
     refine tkA 2 (some 30) (Op.move (Operand.tmp 7)) 3 (v := ?_) rfl (by kernel_rfl) ?_ ‹_› ?_
     rotate_left
     ·(intro w h; (try dsimp only at h); go_simp) <;> with_reducible rfl
     (try simp only [Act.put, yI, yZ, yS])
     refine tkA 3 (some 31) (Op.binOp BinOp.add 3 (Operand.tmp 30) (Operand.const (Value.int IntKind.i64 1)) 3) 3 (v := ?_) rfl (by kernel_rfl) ?_ ‹_› ?_
     rotate_left
     ·(intro w h; (try dsimp only at h); go_simp) <;> with_reducible rfl
     (try simp only [Act.put, yI, yZ, yS])
     refine tkA 4 (some 32) (Op.slice 32 (Operand.tmp 29) (some (Operand.tmp 31)) none none) 32 (v := ?_) rfl (by kernel_rfl) ?_ ‹_› ?_
     rotate_left
     ·(intro w h; (try dsimp only at h); go_simp) <;> with_reducible rfl
     (try simp only [Act.put, yI, yZ, yS])
     refine tkA 6 (some 34) (Op.move (Operand.tmp 0)) 32 (v := ?_) rfl (by kernel_rfl) ?_ ‹_› ?_
     rotate_left
     ·(intro w h; (try dsimp only at h); go_simp) <;> with_reducible rfl
     (try simp only [Act.put, yI, yZ, yS])
     refine tkA 7 (some 35) (Op.move (Operand.tmp 7)) 3 (v := ?_) rfl (by kernel_rfl) ?_ ‹_› ?_
     rotate_left
     ·(intro w h; (try dsimp only at h); go_simp) <;> with_reducible rfl
     (try simp only [Act.put, yI, yZ, yS])
     refine tkA 8 (some 36) (Op.indexAddr 32 (Operand.tmp 34) (Operand.tmp 35)) 0 (v := ?_) rfl (by kernel_rfl) ?_ ‹_› ?_
     rotate_left
     ·(intro w h; (try dsimp only at h); go_simp) <;> with_reducible rfl
     (try simp only [Act.put, yI, yZ, yS])
     refine tkA 9 (some 37) (Op.fieldAddr 100 (Operand.tmp 36) 1) 0 (v := ?_) rfl (by kernel_rfl) ?_ ‹_› ?_
     rotate_left
     ·(intro w h; (try dsimp only at h); go_simp) <;> with_reducible rfl
     (try simp only [Act.put, yI, yZ, yS])
     refine tkA 10 (some 38) (Op.load 3 (Operand.tmp 37)) 3 (v := ?_) rfl (by kernel_rfl) ?_ ‹_› ?_
     rotate_left
     ·(intro w h; (try dsimp only at h); go_simp) <;> with_reducible rfl
     (try simp only [Act.put, yI, yZ, yS])
     refine rdA (rs := [5]) (by kernel_rfl) ?_ rfl
     refine AllReadyH.cons (o := ({ dst := some 33, op := Op.call { callee := Callee.builtin Builtin.append, args := #[Operand.tmp 28, Operand.tmp 32], argTypes := #[32, 32] }, type := 32, pos := "ref.go:42", after := #[{ on := 0, ground := Ground.data }, { on := 4, ground := Ground.data }], guard := none } : Oper)) rfl (fun K hK => ?_) AllReadyH.nil
     skip
     rw [if_pos (by rfl)]
     refine wp_append_own _ (.tmp 28) (.tmp 32) 32 rfl w.heap.size 100 i0 (.agg #[.int .i64 0, .int .i64 0]) 2 16 Tryz.underlying32 HI.out.1 HI.out.2.1 HI.out.2.2.1 HI.out.2.2.2 rfl (by decide) (.slice A' y c') y (rc (l.take y)) (by simp [Act.eval]) OWN.out ⟨bl, o + y1 * 2, none⟩ m2 (c - y1) (rc (l.drop y1)) (by simp [Act.eval]) NW2.out.1 NW2.out.2 (rc_one _) hml hby hsz ?_
     intro v5 w5 hrow hgr hnil
     obtain ⟨A5, c5, rfl⟩ := own_form (l := l.take y ++ l.drop y1) (by rw [rc_append]; exact hrow)
     have R5 := Lib.hid (show w5.ownsRow w.heap.size 100 2 (.slice A5 (y + m2) c5) (y + m2) (rc (l.take y ++ l.drop y1)) ∧ Below w.heap.size w w5 from ⟨by rw [rc_append]; exact hrow, H4.out.2.drew.grown hgr hsz (own_low OWN.out)⟩)
     clear hrow hgr hnil
     refine hK.out _ _ ?_ (fun hHeld => ?_)
     ·exact HS.out _ R5.out.2
     clear hK K
     (try simp only [Act.put, yI, yZ, yS])
     refine tkA 11 (some 4) (Op.assign (Operand.tmp 33)) 32 (v := ?_) rfl (by kernel_rfl) ?_ ‹_› ?_
     rotate_left
     ·(intro w h; (try dsimp only at h); go_simp) <;> with_reducible rfl
     (try simp only [Act.put, yI, yZ, yS])
     refine tkA 12 (some 5) (Op.assign (Operand.tmp 38)) 3 (v := ?_) rfl (by kernel_rfl) ?_ ‹_› ?_
     rotate_left
     ·(intro w h; (try dsimp only at h); go_simp) <;> with_reducible rfl
     (try simp only [Act.put, yI, yZ, yS])
     refine tkA 13 (some 6) (Op.assign (Operand.const (Value.bool true))) 4 (v := ?_) rfl (by kernel_rfl) ?_ ‹_› ?_
     rotate_left
     ·(intro w h; (try dsimp only at h); go_simp) <;> with_reducible rfl
     (try simp only [Act.put, yI, yZ, yS])
     refine wpAnyH_done (by kernel_rfl) ?_ _
     refine NoPanic.normal ?_
     clear hw1
     go_wp2_with fail
     refine bodyPost_ret (v := .tuple #[.slice A5 (y + m2) c5, .int .i64 x, .bool true]) ?_ rfl ?_
     ·simp [results, go_sem]
     ·exact FIN.out A5 (y + m2) c5 w5 R5.out.1 R5.out.2 hfin
   ·have ee : (k == cl) = false := by simp [e]
    have NN := Lib.hid (show ∀ j (h : j < l.length), y ≤ j → l[j].p ≠ cl from fun j h hj => by
     rcases Nat.lt_or_ge y j with h1 | h1
     ·exact NO.out j h (by omega)
     ·obtain rfl : j = y := by omega
      rw [← hk]; exact e)
    clear hk hx hc e NO hs c1 h0
    go_wp2_with fail
    go_round
    case rel => exact ⟨y, _, by omega, rfl, by go_num, NN.out⟩
    case measure => simp [intOf]
end Go.Proofs.YtmboibipabkhaaaGreat
