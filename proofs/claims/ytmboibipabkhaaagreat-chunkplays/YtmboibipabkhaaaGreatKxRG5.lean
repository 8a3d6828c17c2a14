/-
  The document's Give.
-/
import Derived.Test.YtmboibipabkhaaaGreatKxK0
import Derived.Test.YtmboibipabkhaaaGreatKxRTk5
import Derived.Test.YtmboibipabkhaaaGreatKxRH5
import Derived.Test.YtmboibipabkhaaaGreatKxK4
namespace Go.Proofs.YtmboibipabkhaaaGreat
open Go.ChangeShapes Go.WideShapes Go.ChangeAt Go.RowKit Go.Deep
set_option linter.unusedVariables false
set_option maxRecDepth 20000
def StR1 (l : List M.R) (p n : Int) (q j : Nat) (d : Bool) (all : List M.R) : Prop := (d = false ∧ j ≤ q ∧ all = l.take j) ∨ (d = true ∧ q < j ∧ all = l.take q ++ (⟨p, n⟩ :: (l.take j).drop q))
theorem StR1.skip {l all : List M.R} {p n : Int} {q j : Nat} {d : Bool} (h : StR1 l p n q j d all) (hj : j < l.length) (hq : d = true ∨ j < q) : StR1 l p n q (j + 1) d (all ++ [l[j]]) := by
 rcases h with ⟨rfl, h1, rfl⟩ | ⟨rfl, h1, rfl⟩
 ·rcases hq with hq | hq
  ·cases hq
  ·exact .inl ⟨rfl, by omega, by rw [List.take_succ_eq_append_getElem hj]⟩
 ·refine .inr ⟨rfl, by omega, ?_⟩
  rw [List.take_succ_eq_append_getElem hj, List.drop_append_of_le_length (by rw [List.length_take]; omega)]
  simp
theorem StR1.put {l all : List M.R} {p n : Int} {q : Nat} (h : StR1 l p n q q false all) (hj : q < l.length) : StR1 l p n q (q + 1) true (all ++ [⟨p, n⟩] ++ [l[q]]) := by
 rcases h with ⟨_, h1, rfl⟩ | ⟨h, _⟩
 ·refine .inr ⟨rfl, by omega, ?_⟩
  rw [List.take_succ_eq_append_getElem hj, List.drop_append_of_le_length (by rw [List.length_take]; omega), List.drop_of_length_le (by rw [List.length_take]; omega)]
  simp
 ·cases h
theorem StR1.end_done {l all : List M.R} {p n : Int} {q : Nat} (h : StR1 l p n q l.length true all) (hq : q = M.cnt (p + 1) l) : all = M.ins l p n := by
 rcases h with ⟨h, _⟩ | ⟨_, _, rfl⟩
 ·cases h
 ·rw [M.ins, ← hq, List.take_length]
theorem StR1.end_not {l all : List M.R} {p n : Int} {q : Nat} (h : StR1 l p n q l.length false all) (hq : q = M.cnt (p + 1) l) : all ++ [⟨p, n⟩] = M.ins l p n := by
 rcases h with ⟨_, h1, rfl⟩ | ⟨h, _⟩
 ·have h2 := M.cnt_le (p + 1) l
  have e : q = l.length := by omega
  rw [M.ins, ← hq, e, List.take_length, List.drop_length]
 ·cases h
theorem wk_take {N : Int} {l : List M.R} (k : Nat) : ∀ {a : Int}, M.Wk a N l → M.Wk a N (l.take k) := fun {a} h => by
 have : M.Wk a N (l.take k ++ l.drop k) := by rw [List.take_append_drop]; exact h
 exact ((M.Wk_append _ _ _).1 this).1
theorem wk_at {N : Int} {l : List M.R} {a : Int} (h : M.Wk a N l) (k : Nat) (hk : k < l.length) : 0 ≤ l[k].p ∧ 1 ≤ l[k].n ∧ l[k].p + l[k].n ≤ N := by
 rw [take_split l k hk, M.Wk_append] at h
 exact ⟨h.2.2.1, h.2.2.2.1, h.2.2.2.2.1⟩
theorem MineR.last {w : World} {B c g t : Nat} {L : List M.R} (h : MineR w B (some ⟨g, 0, none⟩) L c) (ht : t + 1 = L.length) (v : Int) :
  MineR (w.setCell ⟨g, t * 2 + 1, none⟩ (.int .i64 v)) B (some ⟨g, 0, none⟩) (L.take t ++ [⟨(L.getD t ⟨0, 0⟩).p, v⟩]) c := by
 rcases h with ⟨h, _⟩ | ⟨g', cs, e, h1, h2, h3, h4, h5, h6⟩
 ·cases h
 ·injection e with e
  injection e with e
  subst e
  refine .inr ⟨g, cs.set (t * 2 + 1) (.int .i64 v), rfl, h1, ?_, by rw [List.length_append, List.length_take, List.length_cons, List.length_nil]; omega, h4, by rw [List.length_set]; exact h5, ?_⟩
  ·rw [setCell_eq_setRow w g (t * 2 + 1) cs.toArray _ _ _ h2]
   have : (cs.toArray.setIfInBounds (t * 2 + 1) (.int .i64 v)) = (cs.set (t * 2 + 1) (.int .i64 v)).toArray := by simp
   rw [this]
   exact h2.set _
  ·have el : (L.take t ++ [(⟨(L.getD t ⟨0, 0⟩).p, v⟩ : M.R)]).length = L.length := by rw [List.length_append, List.length_take, List.length_cons, List.length_nil]; omega
   have eL : L = L.take t ++ [L.getD t ⟨0, 0⟩] := by
    have := M.take_snoc L (t + 1) (by omega) (by omega)
    rw [List.take_of_length_le (by omega), Nat.add_sub_cancel] at this
    exact this
   rw [el, List.take_set, h6]
   have hlt : (rc (L.take t)).length = t * 2 := by rw [rc_length, List.length_take]; omega
   conv => lhs; rw [eL]
   rw [rc_append, rc_append, List.set_append_right _ _ (by omega), hlt]
   rw [show t * 2 + 1 - t * 2 = 1 by omega]
   rfl
set_option maxHeartbeats 2000000 in
theorem rgive_no (w : World) (A : Option Addr) (l : List M.R) (z c : Nat) (hz : z = l.length) (hA : Runs w A l) (hl : z ≤ 100) (hok : M.Ok (-1) 1073741824 l) (N p n : Int) (hN : N ≤ 1073741824) (hN1 : -9223372036854775808 ≤ N) (hp : -9223372036854775808 ≤ p) (hp2 : p ≤ 9223372036854775807) (hn : -9223372036854775808 ≤ n) (hn2 : n ≤ 9223372036854775807) (hg : giveB l N p n = false) :
  Calls Tryz.prog 69 #[.slice A z c, .int .i64 N, .int .i64 p, .int .i64 n] w (GotGF w (giveL l N p n) (giveB l N p n)) := by
 have HR := Lib.hid (show giveL l N p n = [] ∧ giveB l N p n = false from ⟨by rw [giveL, hg]; rfl, hg⟩)
 have hhas := rhas_any w A l z c hz hA (by omega) hok p n hp hp2 hn hn2
 unfold giveB at hg
 have fin : ∀ w', Below w.heap.size w w' → GotGF w (giveL l N p n) (giveB l N p n) (.returned (.tuple #[.slice none 0 0, .bool false])) w' := fun w' hb => ⟨none, 0, 0, by rw [HR.out.2], by rw [HR.out.1]; rfl, by rw [HR.out.1]; exact Runs.nil, hb, fresh_none _⟩
 have FIN := Lib.hid fin
 clear fin
 by_cases t1 : p < 0
 ·clear hhas hg hok hA hz
  go_enter Tryz.func69, Tryz.ntmps69
  go_wp2_with fail
  go_ret2
  exact FIN.out _ (Below.refl _ _)
 by_cases t2 : n < 1
 ·clear hhas hg hok hA hz
  go_enter Tryz.func69, Tryz.ntmps69
  go_wp2_with fail
  go_ret2
  exact FIN.out _ (Below.refl _ _)
 by_cases t3 : N < p
 ·clear hhas hg hok hA hz
  go_enter Tryz.func69, Tryz.ntmps69
  go_wp2_with fail
  go_ret2
  exact FIN.out _ (Below.refl _ _)
 have hs : wrap64 (N - p) = N - p := by unfold wrap64; omega
 by_cases t4 : N - p < n
 ·clear hhas hg hok hA hz
  go_enter Tryz.func69, Tryz.ntmps69
  go_wp2_with fail
  go_ret2
  exact FIN.out _ (Below.refl _ _)
 have hh : M.hasR l p n = true := by
  rw [(rfitsB_iff _ _ _).2 ⟨by omega, by omega, by omega⟩] at hg
  simpa using hg
 rw [hh] at hhas
 have HH := Lib.hid hhas
 clear hhas hg hok hA hz hh
 go_enter Tryz.func69, Tryz.ntmps69
 go_wp2_with (go_at_call 95; refine HH.out.mono ?_; rintro e w2 ⟨rfl, b2⟩)
 go_ret2
 exact FIN.out _ b2
set_option maxHeartbeats 8000000 in
theorem rgive_yes (w : World) (A : Option Addr) (l : List M.R) (z c : Nat) (hz : z = l.length) (hA : Runs w A l) (hl : z ≤ 100) (hok : M.Ok (-1) 1073741824 l) (N p n : Int) (hN : N ≤ 1073741824) (hg : giveB l N p n = true) :
  Calls Tryz.prog 69 #[.slice A z c, .int .i64 N, .int .i64 p, .int .i64 n] w (GotGF w (giveL l N p n) (giveB l N p n)) := by
 have hg0 := hg
 unfold giveB at hg
 simp only [Bool.and_eq_true, Bool.not_eq_true'] at hg
 obtain ⟨hf, hh⟩ := hg
 obtain ⟨f1, f2, f3⟩ := (rfitsB_iff _ _ _).1 hf
 have hins := M.ins_wk hok f1 f2 (by omega : p + n ≤ 1073741824) hh
 have HR := Lib.hid (show giveL l N p n = M.mrg [] (M.ins l p n) ∧ giveB l N p n = true from ⟨by rw [giveL, if_pos hg0]; exact M.give_eq hok f1 f2 (by omega : p + n ≤ 1073741824) hh, hg0⟩)
 have hhas := rhas_any w A l z c hz hA (by omega) hok p n (by omega) (by omega) (by omega) (by omega)
 rw [hh] at hhas
 have HH := Lib.hid hhas
 have HW := Lib.hid hins.1
 have HZ := Lib.hid hz
 have HA := Lib.hid hA
 obtain ⟨q, hq⟩ : ∃ q, q = M.cnt (p + 1) l := ⟨_, rfl⟩
 have hbel := M.cnt_below (p + 1) l
 have hat := M.cnt_at (p + 1) l
 rw [← hq] at hbel
 have HQ := Lib.hid (show q = M.cnt (p + 1) l ∧ (∀ j (h : j < l.length), j < q → l[j].p < p + 1) ∧ ∀ h : q < l.length, p + 1 ≤ l[q].p from ⟨hq, hbel, by subst hq; exact hat⟩)
 obtain ⟨i0, hi, hi0, hi1, hi2⟩ := info36
 have HI := Lib.hid (And.intro hi (And.intro hi0 (And.intro hi1 hi2)))
 have hs : wrap64 (N - p) = N - p := by unfold wrap64; omega
 have t1 : ¬ p < 0 := by omega
 have t2 : ¬ n < 1 := by omega
 have t3 : ¬ N < p := by omega
 have t4 : ¬ N - p < n := by omega
 clear hg0 hf hh hins hhas hz hA hq hbel hat hok hi hi0 hi1 hi2
 go_enter Tryz.func69, Tryz.ntmps69
 go_wp2_with (go_at_call 95; refine HH.out.mono ?_; rintro e w2 ⟨rfl, b2⟩)
 have B2 := Lib.hid b2
 clear b2 hs t1 t2 t3 t4 HH
 go_loopw [10, 11, 12] (fun v d i wr => ∃ (j t c' : Nat) (A' : Option Addr) (db : Bool) (all : List M.R), j ≤ z ∧ i = .int .i64 (j : Int) ∧ d = .bool db ∧ v = .slice A' t c' ∧ t = all.length ∧ t ≤ j + 1 ∧ StR1 l p n q j db all ∧ MineR wr w.heap.size A' all c' ∧ Below w.heap.size w wr) (fun v d i _ => z - (intOf i).toNat)
 case atStart => exact ⟨0, 0, 0, none, false, [], by omega, rfl, rfl, rfl, rfl, by omega, .inl ⟨rfl, by omega, rfl⟩, .inl ⟨rfl, rfl, rfl⟩, B2.out⟩
 case round =>
  obtain ⟨j, t, c', A', db, all, hj, rfl, rfl, rfl, ht, htj, hst, hm, br⟩ := hrel
  have BR := Lib.hid br
  have HM := Lib.hid (And.intro ht (And.intro hst hm))
  have hsz := br.size
  clear br ht hst hm
  by_cases hlt : j < z
  ·have hjl : j < l.length := by have := HZ.out; omega
   obtain ⟨bl, o, rfl, hc⟩ := HA.out (by omega)
   have c0 := (hc j hjl).1
   have c1 := (hc j hjl).2
   have hb1 := HQ.out.2.1 j hjl
   have hskip := HM.out.2.1.skip hjl
   have hput : j = q → db = false → StR1 l p n q (j + 1) true (all ++ [⟨p, n⟩] ++ [l[j]]) := fun e e' => by
    subst e e'
    exact HM.out.2.1.put hjl
   have hge : j = q → p + 1 ≤ l[j].p := fun e => by subst e; exact HQ.out.2.2 hjl
   have hle : db = false → j ≤ q := fun e => by
    rcases HM.out.2.1 with ⟨_, h, _⟩ | ⟨h, _⟩
    ·exact h
    ·rw [e] at h; cases h
   obtain ⟨x, hx⟩ : ∃ x, x = l[j] := ⟨_, rfl⟩
   rw [← hx] at c0 c1 hb1 hskip hput hge
   obtain ⟨xp, xn⟩ := x
   simp only at c0 c1 hb1 hge
   have C0 := Lib.hid (And.intro c0 c1)
   have d0 := (BR.out.cell (lt_of_cell c0)).trans c0
   have d1 := (BR.out.cell (lt_of_cell c1)).trans c1
   clear hx c0 c1 hjl hc
   cases db with
   | true =>
    have HX := Lib.hid (hskip (.inl rfl))
    clear hskip hput hge hle hb1
    go_wp2_with (at_builtin; refine wpList_append_lies _ rfl _ _ 29 rfl w.heap.size 98 i0 (.agg #[.int .i64 0, .int .i64 0]) 2 16 Tryz.underlying29 HI.out.1 HI.out.2.1 HI.out.2.2.1 HI.out.2.2.2 rfl (by decide) (.slice A' t c') t (rc all) rfl (mine_owns HM.out.2.2 HM.out.1 _) ⟨wr.heap.size, 0, none⟩ 1 1 (rc [⟨xp, xn⟩]) rfl rfl (new_cells wr xp xn) (rc_one _) (by omega) (by unfold maxLen; omega) (by omega) (by simp; omega) _ rfl ?_; intro g1 c1 w4 hrow hgr hat hlt; (have HAP := Lib.hid (app_mine HM.out.2.2 HM.out.1 BR.out hsz hrow hgr)); clear hrow hgr hat hlt)
    go_roundw
    case rel => exact ⟨j + 1, t + 1, c1, _, true, _, by omega, by go_num, rfl, rfl, by rw [List.length_append, ← HM.out.1]; rfl, by omega, HX.out, HAP.out.1, HAP.out.2⟩
    case measure => simp [intOf]; omega
   | false =>
    by_cases hjq : j < q
    ·have HX := Lib.hid (hskip (.inr hjq))
     have hxp : ¬ p < xp := by have := hb1 hjq; omega
     clear hskip hput hge hle hb1
     go_wp2_with (at_builtin; refine wpList_append_lies _ rfl _ _ 29 rfl w.heap.size 98 i0 (.agg #[.int .i64 0, .int .i64 0]) 2 16 Tryz.underlying29 HI.out.1 HI.out.2.1 HI.out.2.2.1 HI.out.2.2.2 rfl (by decide) (.slice A' t c') t (rc all) rfl (mine_owns HM.out.2.2 HM.out.1 _) ⟨wr.heap.size, 0, none⟩ 1 1 (rc [⟨xp, xn⟩]) rfl rfl (new_cells wr xp xn) (rc_one _) (by omega) (by unfold maxLen; omega) (by omega) (by simp; omega) _ rfl ?_; intro g1 c1 w4 hrow hgr hat hlt; (have HAP := Lib.hid (app_mine HM.out.2.2 HM.out.1 BR.out hsz hrow hgr)); clear hrow hgr hat hlt)
     go_roundw
     case rel => exact ⟨j + 1, t + 1, c1, _, false, _, by omega, by go_num, rfl, rfl, by rw [List.length_append, ← HM.out.1]; rfl, by omega, HX.out, HAP.out.1, HAP.out.2⟩
     case measure => simp [intOf]; omega
    ·have ejq : j = q := by have := hle rfl; omega
     have HX := Lib.hid (hput ejq rfl)
     have hxp : p < xp := by have := hge ejq; omega
     have htj2 : t ≤ j := by
      rcases HM.out.2.1 with ⟨_, _, h⟩ | ⟨h, _⟩
      ·have := HM.out.1; rw [h, List.length_take] at this; omega
      ·cases h
     clear hskip hput hge hle hb1 ejq
     go_upto_region 11 with (at_builtin; refine wpList_append_lies _ rfl _ _ 29 rfl w.heap.size 98 i0 (.agg #[.int .i64 0, .int .i64 0]) 2 16 Tryz.underlying29 HI.out.1 HI.out.2.1 HI.out.2.2.1 HI.out.2.2.2 rfl (by decide) (.slice A' t c') t (rc all) rfl (mine_owns HM.out.2.2 HM.out.1 _) ⟨wr.heap.size, 0, none⟩ 1 1 (rc [⟨p, n⟩]) rfl rfl (new_cells wr p n) (rc_one _) (by omega) (by unfold maxLen; omega) (by omega) (by simp; omega) _ rfl ?_; intro g1 c1 w4 hrow hgr hat hlt; (have HAP := Lib.hid (app_mine HM.out.2.2 HM.out.1 BR.out hsz hrow hgr)); clear hrow hgr hat hlt)
     have hsz4 := HAP.out.2.size
     have e0 := (HAP.out.2.cell (lt_of_cell C0.out.1)).trans C0.out.1
     have e1 := (HAP.out.2.cell (lt_of_cell C0.out.2)).trans C0.out.2
     clear d0 d1
     go_wp2_with (at_builtin; refine wpList_append_lies _ rfl _ _ 29 rfl w.heap.size 98 i0 (.agg #[.int .i64 0, .int .i64 0]) 2 16 Tryz.underlying29 HI.out.1 HI.out.2.1 HI.out.2.2.1 HI.out.2.2.2 rfl (by decide) (.slice (some ⟨g1, 0, none⟩) (t + 1) c1) (t + 1) (rc (all ++ [⟨p, n⟩])) rfl (mine_owns HAP.out.1 (by rw [List.length_append, ← HM.out.1]; rfl) _) ⟨w4.heap.size, 0, none⟩ 1 1 (rc [⟨xp, xn⟩]) rfl rfl (new_cells w4 xp xn) (rc_one _) (by omega) (by unfold maxLen; omega) (by omega) (by simp; omega) _ rfl ?_; intro g2 c2 w5 hrow hgr hat hlt; (have HAQ := Lib.hid (app_mine HAP.out.1 (by rw [List.length_append, ← HM.out.1]; rfl) HAP.out.2 hsz4 hrow hgr)); clear hrow hgr hat hlt)
     go_roundw
     case rel => exact ⟨j + 1, t + 1 + 1, c2, _, true, _, by omega, by go_num, rfl, rfl, by rw [List.length_append, List.length_append, ← HM.out.1]; rfl, by omega, HX.out, HAQ.out.1, HAQ.out.2⟩
     case measure => simp [intOf]; omega
  ·obtain rfl : j = z := by omega
   have hst := HM.out.2.1
   rw [HZ.out] at hst
   cases db with
   | true =>
    have hall := hst.end_done HQ.out.1
    have AL := Lib.hid (show t = (M.ins l p n).length ∧ Runs wr A' (M.ins l p n) from ⟨by rw [← hall]; exact HM.out.1, by rw [← hall]; exact HM.out.2.2.runs⟩)
    obtain ⟨tA, htA⟩ : ∃ tA, tA = t := ⟨_, rfl⟩
    rw [← htA] at AL ⊢
    have htA2 : tA ≤ 102 := by omega
    have BL := BR
    obtain ⟨w0, hw0⟩ : ∃ w0, w0 = wr := ⟨_, rfl⟩
    rw [← hw0] at AL BL ⊢
    clear hst hall HQ htA BR hsz HM hw0
    obtain ⟨al, hal⟩ : ∃ al, al = M.ins l p n := ⟨_, rfl⟩
    rw [← hal] at AL HR HW
    clear hal
    go_wp2_with fail
    go_loopw [13, 14] (fun v i wr => ∃ (j t c' : Nat) (A' : Option Addr), j ≤ tA ∧ i = .int .i64 (j : Int) ∧ v = .slice A' t c' ∧ t = (M.mrg [] (al.take j)).length ∧ t ≤ j ∧ MineR wr w0.heap.size A' (M.mrg [] (al.take j)) c' ∧ Below w0.heap.size w0 wr) (fun v i _ => tA - (intOf i).toNat)
    case atStart => exact ⟨0, 0, 0, none, by omega, rfl, rfl, rfl, by omega, .inl ⟨rfl, rfl, rfl⟩, Below.refl _ _⟩
    case round =>
     obtain ⟨j, t, c', A', hj, rfl, rfl, ht, htj, hm, bx⟩ := hrel
     have BX := Lib.hid bx
     have hsz2 := bx.size
     by_cases hlt2 : j < tA
     ·have hjl : j < al.length := by have := AL.out.1; omega
      obtain ⟨bl2, o2, rfl, hc2⟩ := AL.out.2 (by omega)
      have r0 := (bx.cell (lt_of_cell (hc2 j hjl).1)).trans (hc2 j hjl).1
      have r1 := (bx.cell (lt_of_cell (hc2 j hjl).2)).trans (hc2 j hjl).2
      have hadd := M.mrg_take al j hjl
      have hokL := (M.mrg_ok (al.take j) [] trivial (wk_take j HW.out)).1
      have hwr := wk_at HW.out j hjl
      obtain ⟨L, hL⟩ : ∃ L, L = M.mrg [] (al.take j) := ⟨_, rfl⟩
      rw [← hL] at hadd hokL ht hm
      obtain ⟨x, hx⟩ : ∃ x, x = al[j] := ⟨_, rfl⟩
      rw [← hx] at r0 r1 hadd hwr
      obtain ⟨rp, rn⟩ := x
      simp only at r0 r1 hwr
      have HM := Lib.hid (And.intro ht hm)
      clear hL hx hc2 hjl bx
      rcases Nat.eq_zero_or_pos t with h0 | h0
      ·have eL : L = [] := List.eq_nil_of_length_eq_zero (by rw [← ht]; exact h0)
       have HAD := Lib.hid (show M.mrg [] (al.take (j + 1)) = L ++ [⟨rp, rn⟩] by rw [hadd, eL]; rfl)
       have hw0 : wrap64 ((t : Int) - 1) = -1 := by unfold wrap64; omega
       have hw1 : (t : Int) - 1 = -1 := by omega
       clear hadd hokL hwr eL ht hm h0
       go_wp2_with fail
       go_cut [107] (fun v wy => v = .bool false ∧ wy = wr.drew)
       case first =>
        refine wp_region_noPanic ?_
        refine wp_region_held_drew (S := fun _ => True) (by kernel_rfl) (trivial) (fun hHeld => ?_)
        refine tkA 0 (some 87) (Op.move (Operand.tmp 15)) 3 (v := ?_) rfl (by kernel_rfl) ?_ ‹_› ?_
        rotate_left
        ·(intro w h; (try dsimp only at h); go_simp) <;> with_reducible rfl
        (try simp only [Act.put, yI, yZ, yS])
        refine tkA 1 (some 88) (Op.binOp BinOp.geq 3 (Operand.tmp 87) (Operand.const (Value.int IntKind.i64 0)) 3) 4 (v := ?_) rfl (by kernel_rfl) ?_ ‹_› ?_
        rotate_left
        ·(intro w h; (try dsimp only at h); go_simp) <;> with_reducible rfl
        (try simp only [Act.put, yI, yZ, yS])
        refine tkA 2 (some 89) (Op.move (Operand.tmp 88)) 4 (v := ?_) rfl (by kernel_rfl) ?_ ‹_› ?_
        rotate_left
        ·(intro w h; (try dsimp only at h); go_simp) <;> with_reducible rfl
        (try simp only [Act.put, yI, yZ, yS])
        refine tkO 3 (some 90) rfl (by kernel_rfl) ‹_› ?_
        (try simp only [Act.put, yI, yZ, yS])
        refine tkO 4 (some 91) rfl (by kernel_rfl) ‹_› ?_
        (try simp only [Act.put, yI, yZ, yS])
        refine tkO 5 (some 92) rfl (by kernel_rfl) ‹_› ?_
        (try simp only [Act.put, yI, yZ, yS])
        refine tkO 6 (some 93) rfl (by kernel_rfl) ‹_› ?_
        (try simp only [Act.put, yI, yZ, yS])
        refine tkO 7 (some 94) rfl (by kernel_rfl) ‹_› ?_
        (try simp only [Act.put, yI, yZ, yS])
        refine tkO 8 (some 95) rfl (by kernel_rfl) ‹_› ?_
        (try simp only [Act.put, yI, yZ, yS])
        refine tkO 9 (some 96) rfl (by kernel_rfl) ‹_› ?_
        (try simp only [Act.put, yI, yZ, yS])
        refine tkO 10 (some 97) rfl (by kernel_rfl) ‹_› ?_
        (try simp only [Act.put, yI, yZ, yS])
        refine tkO 11 (some 98) rfl (by kernel_rfl) ‹_› ?_
        (try simp only [Act.put, yI, yZ, yS])
        refine tkO 12 (some 99) rfl (by kernel_rfl) ‹_› ?_
        (try simp only [Act.put, yI, yZ, yS])
        refine tkO 13 (some 100) rfl (by kernel_rfl) ‹_› ?_
        (try simp only [Act.put, yI, yZ, yS])
        refine tkO 14 (some 101) rfl (by kernel_rfl) ‹_› ?_
        (try simp only [Act.put, yI, yZ, yS])
        refine tkO 15 (some 102) rfl (by kernel_rfl) ‹_› ?_
        (try simp only [Act.put, yI, yZ, yS])
        refine tkO 16 (some 103) rfl (by kernel_rfl) ‹_› ?_
        (try simp only [Act.put, yI, yZ, yS])
        refine tkO 17 (some 104) rfl (by kernel_rfl) ‹_› ?_
        (try simp only [Act.put, yI, yZ, yS])
        refine tkO 18 (some 105) rfl (by kernel_rfl) ‹_› ?_
        (try simp only [Act.put, yI, yZ, yS])
        refine tkO 19 (some 106) rfl (by kernel_rfl) ‹_› ?_
        (try simp only [Act.put, yI, yZ, yS])
        refine tkA 20 (some 107) (Op.pick (Operand.tmp 89) (Operand.tmp 106) (Operand.const (Value.bool false))) 4 (v := ?_) rfl (by kernel_rfl) ?_ ‹_› ?_
        rotate_left
        ·(intro w h; (try dsimp only at h); go_simp) <;> with_reducible rfl
        (try simp only [Act.put, yI, yZ, yS])
        refine wpAnyH_done (by kernel_rfl) ?_ _
        refine NoPanic.normal ?_
        go_wp2_with fail
        go_meet
        exact ⟨by first | rfl | (simp; omega), rfl⟩
       case rest =>
        obtain ⟨rfl, rfl⟩ := hcut
        clear hw0 hw1
        go_wp2_with (at_builtin; refine wpList_append_lies _ rfl _ _ 29 rfl w0.heap.size 98 i0 (.agg #[.int .i64 0, .int .i64 0]) 2 16 Tryz.underlying29 HI.out.1 HI.out.2.1 HI.out.2.2.1 HI.out.2.2.2 rfl (by decide) (.slice A' t c') t (rc L) rfl (mine_owns (show MineR wr.drew _ _ _ _ from HM.out.2.keep fun g _ => rfl) HM.out.1 _) ⟨wr.drew.heap.size, 0, none⟩ 1 1 (rc [⟨rp, rn⟩]) rfl rfl (new_cells wr.drew rp rn) (rc_one _) (by omega) (by unfold maxLen; omega) (by omega) (by simp; omega) _ rfl ?_; intro g1 c1 w4 hrow hgr hat hlt; (have HAP := Lib.hid (app_mine (show MineR wr.drew _ _ _ _ from HM.out.2.keep fun g _ => rfl) HM.out.1 BX.out.drew hsz2 hrow hgr)); clear hrow hgr hat hlt)
        go_roundw
        case rel => exact ⟨j + 1, t + 1, c1, _, by omega, by go_num, rfl, by rw [HAD.out, List.length_append, ← HM.out.1]; rfl, by omega, by rw [HAD.out]; exact HAP.out.1, HAP.out.2⟩
        case measure => simp [intOf]; omega
      ·obtain ⟨s, hs⟩ : ∃ s, t = s + 1 := ⟨t - 1, by omega⟩
       have hsl : s < L.length := by omega
       rcases HM.out.2 with ⟨_, h, _⟩ | ⟨g, cs, rfl, hB, hblk, g1, g2, g3, g4⟩
       ·rw [h] at hsl; simp at hsl
       have hlast := rc_at L s hsl
       rw [← g4, List.getElem?_take, List.getElem?_take, if_pos (by omega), if_pos (by omega), ← hblk.cell, ← hblk.cell] at hlast
       have bs := ok_at hokL s hsl
       have hgd := M.getD_at L s hsl
       obtain ⟨y, hy⟩ : ∃ y, y = L[s] := ⟨_, rfl⟩
       rw [← hy] at hlast bs hgd
       obtain ⟨lp, ln⟩ := y
       simp only at hlast bs
       have hls : L.length - 1 = s := by omega
       have hmeet : M.meets L ⟨rp, rn⟩ = decide (lp + ln = rp) := by
        unfold M.meets
        rw [hls, hgd, show decide (0 < L.length) = true by simp; omega, Bool.true_and]
       have hw0 : wrap64 ((t : Int) - 1) = (s : Int) := by unfold wrap64; omega
       have hw1 : (t : Int) - 1 = (s : Int) := by omega
       have hst : s < t := by omega
       have hw2 : IntKind.i64.wrap (lp + ln) = lp + ln := by rw [IntKind.wrap_i64]; omega
       have l0 := hlast.1
       have l1 := hlast.2
       have HS := Lib.hid (show (fun W => W.cell? ⟨g, s * 2, none⟩ = some (.int .i64 lp) ∧ W.cell? ⟨g, s * 2 + 1, none⟩ = some (.int .i64 ln) ∧ W.cell? ⟨bl2, o2 + j * 2, none⟩ = some (.int .i64 rp) ∧ W.cell? ⟨bl2, o2 + j * 2 + 1, none⟩ = some (.int .i64 rn)) wr.drew from ⟨l0, l1, r0, r1⟩)
       have FZ := Lib.hid (hblk.frozen (s * 2 + 1))
       have HML := Lib.hid (HM.out.2.last (t := s) (by omega) (ln + rn))
       have HGB := Lib.hid hB
       by_cases hm2 : lp + ln = rp
       ·have HAD := Lib.hid (show M.mrg [] (al.take (j + 1)) = L.take s ++ [⟨lp, ln + rn⟩] by rw [hadd, M.add, if_pos (by rw [hmeet]; simpa using hm2), hls, hgd])
        have hw3 : IntKind.i64.wrap (ln + rn) = ln + rn := by rw [IntKind.wrap_i64]; omega
        have hw4 : IntKind.i64.wrap rp = rp := by rw [IntKind.wrap_i64]; omega
        have hs2 := hs
        clear hadd hokL hwr ht hm h0 hlast bs hmeet hls hy hsl g1 g2 g3 g4 hs hB hblk
        rw [hgd] at HML
        have HL := Lib.hid (And.intro HML.out (show Below w0.heap.size w0 (wr.setCell ⟨g, s * 2 + 1, none⟩ (.int .i64 (ln + rn))) from BX.out.setCell (p := ⟨g, s * 2 + 1, none⟩) HGB.out _))
        have hts : s + 1 = t := hs2.symm
        clear hs2 hgd
        go_wp2_with fail
        go_cut [107] (fun v wy => v = .bool true ∧ wy = wr.drew)
        case first =>
         have q1 : (lp + ln == rp) = true := by simp; omega
         have q2 : decide (lp + ln = rp) = true := by simp; omega
         have q3 : decide (rp = rp) = true := by simp
         refine wp_region_noPanic ?_
         refine wp_region_held_drew (S := fun W => W.cell? ⟨g, s * 2, none⟩ = some (.int .i64 lp) ∧ W.cell? ⟨g, s * 2 + 1, none⟩ = some (.int .i64 ln) ∧ W.cell? ⟨bl2, o2 + j * 2, none⟩ = some (.int .i64 rp) ∧ W.cell? ⟨bl2, o2 + j * 2 + 1, none⟩ = some (.int .i64 rn)) (by kernel_rfl) (HS.out) (fun hHeld => ?_)
         refine tkA 0 (some 87) (Op.move (Operand.tmp 15)) 3 (v := ?_) rfl (by kernel_rfl) ?_ ‹_› ?_
         rotate_left
         ·(intro w h; (try dsimp only at h); go_simp) <;> with_reducible rfl
         (try simp only [Act.put, yI, yZ, yS])
         refine tkA 1 (some 88) (Op.binOp BinOp.geq 3 (Operand.tmp 87) (Operand.const (Value.int IntKind.i64 0)) 3) 4 (v := ?_) rfl (by kernel_rfl) ?_ ‹_› ?_
         rotate_left
         ·(intro w h; (try dsimp only at h); go_simp) <;> with_reducible rfl
         (try simp only [Act.put, yI, yZ, yS])
         refine tkA 2 (some 89) (Op.move (Operand.tmp 88)) 4 (v := ?_) rfl (by kernel_rfl) ?_ ‹_› ?_
         rotate_left
         ·(intro w h; (try dsimp only at h); go_simp) <;> with_reducible rfl
         (try simp only [Act.put, yI, yZ, yS])
         refine tkA 3 (some 90) (Op.move (Operand.tmp 13)) 29 (v := ?_) rfl (by kernel_rfl) ?_ ‹_› ?_
         rotate_left
         ·(intro w h; (try dsimp only at h); go_simp) <;> with_reducible rfl
         (try simp only [Act.put, yI, yZ, yS])
         refine tkA 4 (some 91) (Op.move (Operand.tmp 15)) 3 (v := ?_) rfl (by kernel_rfl) ?_ ‹_› ?_
         rotate_left
         ·(intro w h; (try dsimp only at h); go_simp) <;> with_reducible rfl
         (try simp only [Act.put, yI, yZ, yS])
         refine tkA 5 (some 92) (Op.indexAddr 29 (Operand.tmp 90) (Operand.tmp 91)) 0 (v := ?_) rfl (by kernel_rfl) ?_ ‹_› ?_
         rotate_left
         ·(intro w h; (try dsimp only at h); go_simp) <;> with_reducible rfl
         (try simp only [Act.put, yI, yZ, yS])
         refine tkA 6 (some 93) (Op.fieldAddr 98 (Operand.tmp 92) 0) 0 (v := ?_) rfl (by kernel_rfl) ?_ ‹_› ?_
         rotate_left
         ·(intro w h; (try dsimp only at h); go_simp) <;> with_reducible rfl
         (try simp only [Act.put, yI, yZ, yS])
         refine tkA 7 (some 94) (Op.load 3 (Operand.tmp 93)) 3 (v := ?_) rfl (by kernel_rfl) ?_ ‹_› ?_
         rotate_left
         ·(intro w h; (try dsimp only at h); go_simp) <;> with_reducible rfl
         (try simp only [Act.put, yI, yZ, yS])
         refine tkA 8 (some 95) (Op.move (Operand.tmp 13)) 29 (v := ?_) rfl (by kernel_rfl) ?_ ‹_› ?_
         rotate_left
         ·(intro w h; (try dsimp only at h); go_simp) <;> with_reducible rfl
         (try simp only [Act.put, yI, yZ, yS])
         refine tkA 9 (some 96) (Op.move (Operand.tmp 15)) 3 (v := ?_) rfl (by kernel_rfl) ?_ ‹_› ?_
         rotate_left
         ·(intro w h; (try dsimp only at h); go_simp) <;> with_reducible rfl
         (try simp only [Act.put, yI, yZ, yS])
         refine tkA 10 (some 97) (Op.indexAddr 29 (Operand.tmp 95) (Operand.tmp 96)) 0 (v := ?_) rfl (by kernel_rfl) ?_ ‹_› ?_
         rotate_left
         ·(intro w h; (try dsimp only at h); go_simp) <;> with_reducible rfl
         (try simp only [Act.put, yI, yZ, yS])
         refine tkA 11 (some 98) (Op.fieldAddr 98 (Operand.tmp 97) 1) 0 (v := ?_) rfl (by kernel_rfl) ?_ ‹_› ?_
         rotate_left
         ·(intro w h; (try dsimp only at h); go_simp) <;> with_reducible rfl
         (try simp only [Act.put, yI, yZ, yS])
         refine tkA 12 (some 99) (Op.load 3 (Operand.tmp 98)) 3 (v := ?_) rfl (by kernel_rfl) ?_ ‹_› ?_
         rotate_left
         ·(intro w h; (try dsimp only at h); go_simp) <;> with_reducible rfl
         (try simp only [Act.put, yI, yZ, yS])
         refine tkA 13 (some 100) (Op.binOp BinOp.add 3 (Operand.tmp 94) (Operand.tmp 99) 3) 3 (v := ?_) rfl (by kernel_rfl) ?_ ‹_› ?_
         rotate_left
         ·(intro w h; (try dsimp only at h); go_simp) <;> with_reducible rfl
         (try simp only [Act.put, yI, yZ, yS])
         refine tkA 14 (some 101) (Op.move (Operand.tmp 10)) 29 (v := ?_) rfl (by kernel_rfl) ?_ ‹_› ?_
         rotate_left
         ·(intro w h; (try dsimp only at h); go_simp) <;> with_reducible rfl
         (try simp only [Act.put, yI, yZ, yS])
         refine tkA 15 (some 102) (Op.move (Operand.tmp 14)) 3 (v := ?_) rfl (by kernel_rfl) ?_ ‹_› ?_
         rotate_left
         ·(intro w h; (try dsimp only at h); go_simp) <;> with_reducible rfl
         (try simp only [Act.put, yI, yZ, yS])
         refine tkA 16 (some 103) (Op.indexAddr 29 (Operand.tmp 101) (Operand.tmp 102)) 0 (v := ?_) rfl (by kernel_rfl) ?_ ‹_› ?_
         rotate_left
         ·(intro w h; (try dsimp only at h); go_simp) <;> with_reducible rfl
         (try simp only [Act.put, yI, yZ, yS])
         refine tkA 17 (some 104) (Op.fieldAddr 98 (Operand.tmp 103) 0) 0 (v := ?_) rfl (by kernel_rfl) ?_ ‹_› ?_
         rotate_left
         ·(intro w h; (try dsimp only at h); go_simp) <;> with_reducible rfl
         (try simp only [Act.put, yI, yZ, yS])
         refine tkA 18 (some 105) (Op.load 3 (Operand.tmp 104)) 3 (v := ?_) rfl (by kernel_rfl) ?_ ‹_› ?_
         rotate_left
         ·(intro w h; (try dsimp only at h); go_simp) <;> with_reducible rfl
         (try simp only [Act.put, yI, yZ, yS])
         refine tkA 19 (some 106) (Op.binOp BinOp.eql 3 (Operand.tmp 100) (Operand.tmp 105) 3) 4 (v := ?_) rfl (by kernel_rfl) ?_ ‹_› ?_
         rotate_left
         ·(intro w h; (try dsimp only at h); go_simp) <;> with_reducible rfl
         (try simp only [Act.put, yI, yZ, yS])
         refine tkA 20 (some 107) (Op.pick (Operand.tmp 89) (Operand.tmp 106) (Operand.const (Value.bool false))) 4 (v := ?_) rfl (by kernel_rfl) ?_ ‹_› ?_
         rotate_left
         ·(intro w h; (try dsimp only at h); go_simp) <;> with_reducible rfl
         (try simp only [Act.put, yI, yZ, yS])
         refine wpAnyH_done (by kernel_rfl) ?_ _
         refine NoPanic.normal ?_
         go_wp2_with fail
         go_meet
         refine ⟨?_, rfl⟩
         first | rfl | (simp; done) | (simp; omega)
        case rest =>
         obtain ⟨rfl, rfl⟩ := hcut
         clear hm2 hw0 hw1 hw2 hw4
         have f0 := FZ.out
         go_wp2_with fail
         refine wp_region_noPanic ?_
         refine wp_region_held_drew (S := fun _ => True) (by kernel_rfl) (trivial) (fun hHeld => ?_)
         refine tkA 0 (some 108) (Op.move (Operand.tmp 13)) 29 (v := ?_) rfl (by kernel_rfl) ?_ ‹_› ?_
         rotate_left
         ·(intro w h; (try dsimp only at h); go_simp) <;> with_reducible rfl
         (try simp only [Act.put, yI, yZ, yS])
         refine tkA 1 (some 109) (Op.move (Operand.tmp 15)) 3 (v := ?_) rfl (by kernel_rfl) ?_ ‹_› ?_
         rotate_left
         ·(intro w h; (try dsimp only at h); go_simp) <;> with_reducible rfl
         (try simp only [Act.put, yI, yZ, yS])
         refine tkA 2 (some 110) (Op.indexAddr 29 (Operand.tmp 108) (Operand.tmp 109)) 0 (v := ?_) rfl (by kernel_rfl) ?_ ‹_› ?_
         rotate_left
         ·(intro w h; (try dsimp only at h); go_simp) <;> with_reducible rfl
         (try simp only [Act.put, yI, yZ, yS])
         refine tkA 3 (some 111) (Op.fieldAddr 98 (Operand.tmp 110) 1) 0 (v := ?_) rfl (by kernel_rfl) ?_ ‹_› ?_
         rotate_left
         ·(intro w h; (try dsimp only at h); go_simp) <;> with_reducible rfl
         (try simp only [Act.put, yI, yZ, yS])
         refine tkA 5 (some 113) (Op.move (Operand.tmp 10)) 29 (v := ?_) rfl (by kernel_rfl) ?_ ‹_› ?_
         rotate_left
         ·(intro w h; (try dsimp only at h); go_simp) <;> with_reducible rfl
         (try simp only [Act.put, yI, yZ, yS])
         refine tkA 6 (some 114) (Op.move (Operand.tmp 14)) 3 (v := ?_) rfl (by kernel_rfl) ?_ ‹_› ?_
         rotate_left
         ·(intro w h; (try dsimp only at h); go_simp) <;> with_reducible rfl
         (try simp only [Act.put, yI, yZ, yS])
         refine tkA 7 (some 115) (Op.indexAddr 29 (Operand.tmp 113) (Operand.tmp 114)) 0 (v := ?_) rfl (by kernel_rfl) ?_ ‹_› ?_
         rotate_left
         ·(intro w h; (try dsimp only at h); go_simp) <;> with_reducible rfl
         (try simp only [Act.put, yI, yZ, yS])
         refine tkA 8 (some 116) (Op.fieldAddr 98 (Operand.tmp 115) 1) 0 (v := ?_) rfl (by kernel_rfl) ?_ ‹_› ?_
         rotate_left
         ·(intro w h; (try dsimp only at h); go_simp) <;> with_reducible rfl
         (try simp only [Act.put, yI, yZ, yS])
         refine rdA (rs := [4, 9]) (by kernel_rfl) ?_ rfl
         refine rcA (some 112) (Op.load 3 (Operand.tmp 111)) 3 rfl (by kernel_rfl) (fun K hK => ?_) ?_
         ·go_simp
          refine hK.out _ _ ?_ (fun hHeld => ?_)
          ·trivial
          clear hK K
          (try simp only [Act.put, yI, yZ, yS])
          refine rdA (rs := [9]) (by kernel_rfl) ?_ rfl
          refine rcA (some 117) (Op.load 3 (Operand.tmp 116)) 3 rfl (by kernel_rfl) (fun K hK => ?_) AllReadyH.nil
          go_simp
          refine hK.out _ _ ?_ (fun hHeld => ?_)
          ·trivial
          clear hK K
          (try simp only [Act.put, yI, yZ, yS])
          refine tkA 10 (some 118) (Op.binOp BinOp.add 3 (Operand.tmp 112) (Operand.tmp 117) 3) 3 (v := ?_) rfl (by kernel_rfl) ?_ ‹_› ?_
          rotate_left
          ·(intro w h; (try dsimp only at h); go_simp) <;> with_reducible rfl
          (try simp only [Act.put, yI, yZ, yS])
          refine tkA 11 (some 119) (Op.indexAddr 29 (Operand.tmp 108) (Operand.tmp 109)) 0 (v := ?_) rfl (by kernel_rfl) ?_ ‹_› ?_
          rotate_left
          ·(intro w h; (try dsimp only at h); go_simp) <;> with_reducible rfl
          (try simp only [Act.put, yI, yZ, yS])
          refine tkA 12 (some 120) (Op.fieldAddr 98 (Operand.tmp 119) 1) 0 (v := ?_) rfl (by kernel_rfl) ?_ ‹_› ?_
          rotate_left
          ·(intro w h; (try dsimp only at h); go_simp) <;> with_reducible rfl
          (try simp only [Act.put, yI, yZ, yS])
          refine rdA (rs := [13]) (by kernel_rfl) ?_ rfl
          refine rcA none (Op.store 3 (Operand.tmp 120) (Operand.tmp 118)) 0 rfl (by kernel_rfl) (fun K hK => ?_) AllReadyH.nil
          go_simp
          refine hK.out _ _ ?_ (fun hHeld => ?_)
          ·trivial
          clear hK K
          (try simp only [Act.put, yI, yZ, yS])
          refine wpAnyH_done (by kernel_rfl) ?_ _
          refine NoPanic.normal ?_
          go_wp2_with fail
          go_roundw
          case rel => exact ⟨j + 1, t, c', _, by omega, by go_num, rfl, by rw [HAD.out, List.length_append, List.length_take, List.length_cons, List.length_nil]; have := HM.out.1; omega, by omega, by rw [HAD.out]; exact HL.out.1.keep fun g _ => rfl, HL.out.2.drew.drew⟩
          case measure => simp [intOf]; omega
         refine rcA (some 117) (Op.load 3 (Operand.tmp 116)) 3 rfl (by kernel_rfl) (fun K hK => ?_) ?_
         ·go_simp
          refine hK.out _ _ ?_ (fun hHeld => ?_)
          ·trivial
          clear hK K
          (try simp only [Act.put, yI, yZ, yS])
          refine rdA (rs := [4]) (by kernel_rfl) ?_ rfl
          refine rcA (some 112) (Op.load 3 (Operand.tmp 111)) 3 rfl (by kernel_rfl) (fun K hK => ?_) AllReadyH.nil
          go_simp
          refine hK.out _ _ ?_ (fun hHeld => ?_)
          ·trivial
          clear hK K
          (try simp only [Act.put, yI, yZ, yS])
          refine tkA 10 (some 118) (Op.binOp BinOp.add 3 (Operand.tmp 112) (Operand.tmp 117) 3) 3 (v := ?_) rfl (by kernel_rfl) ?_ ‹_› ?_
          rotate_left
          ·(intro w h; (try dsimp only at h); go_simp) <;> with_reducible rfl
          (try simp only [Act.put, yI, yZ, yS])
          refine tkA 11 (some 119) (Op.indexAddr 29 (Operand.tmp 108) (Operand.tmp 109)) 0 (v := ?_) rfl (by kernel_rfl) ?_ ‹_› ?_
          rotate_left
          ·(intro w h; (try dsimp only at h); go_simp) <;> with_reducible rfl
          (try simp only [Act.put, yI, yZ, yS])
          refine tkA 12 (some 120) (Op.fieldAddr 98 (Operand.tmp 119) 1) 0 (v := ?_) rfl (by kernel_rfl) ?_ ‹_› ?_
          rotate_left
          ·(intro w h; (try dsimp only at h); go_simp) <;> with_reducible rfl
          (try simp only [Act.put, yI, yZ, yS])
          refine rdA (rs := [13]) (by kernel_rfl) ?_ rfl
          refine rcA none (Op.store 3 (Operand.tmp 120) (Operand.tmp 118)) 0 rfl (by kernel_rfl) (fun K hK => ?_) AllReadyH.nil
          go_simp
          refine hK.out _ _ ?_ (fun hHeld => ?_)
          ·trivial
          clear hK K
          (try simp only [Act.put, yI, yZ, yS])
          refine wpAnyH_done (by kernel_rfl) ?_ _
          refine NoPanic.normal ?_
          go_wp2_with fail
          go_roundw
          case rel => exact ⟨j + 1, t, c', _, by omega, by go_num, rfl, by rw [HAD.out, List.length_append, List.length_take, List.length_cons, List.length_nil]; have := HM.out.1; omega, by omega, by rw [HAD.out]; exact HL.out.1.keep fun g _ => rfl, HL.out.2.drew.drew⟩
          case measure => simp [intOf]; omega
         exact AllReadyH.nil
       ·have HAD := Lib.hid (show M.mrg [] (al.take (j + 1)) = L ++ [⟨rp, rn⟩] by rw [hadd, M.add, if_neg (by rw [hmeet]; simpa using hm2)])
        clear hadd hokL hwr ht hm h0 hlast bs hmeet hls hgd hy hsl g1 g2 g3 g4 hs hB hblk HML
        go_wp2_with fail
        go_cut [107] (fun v wy => v = .bool false ∧ wy = wr.drew)
        case first =>
         have q1 : (lp + ln == rp) = false := by simp; omega
         have q2 : decide (lp + ln = rp) = false := by simp; omega
         refine wp_region_noPanic ?_
         refine wp_region_held_drew (S := fun W => W.cell? ⟨g, s * 2, none⟩ = some (.int .i64 lp) ∧ W.cell? ⟨g, s * 2 + 1, none⟩ = some (.int .i64 ln) ∧ W.cell? ⟨bl2, o2 + j * 2, none⟩ = some (.int .i64 rp) ∧ W.cell? ⟨bl2, o2 + j * 2 + 1, none⟩ = some (.int .i64 rn)) (by kernel_rfl) (HS.out) (fun hHeld => ?_)
         refine tkA 0 (some 87) (Op.move (Operand.tmp 15)) 3 (v := ?_) rfl (by kernel_rfl) ?_ ‹_› ?_
         rotate_left
         ·(intro w h; (try dsimp only at h); go_simp) <;> with_reducible rfl
         (try simp only [Act.put, yI, yZ, yS])
         refine tkA 1 (some 88) (Op.binOp BinOp.geq 3 (Operand.tmp 87) (Operand.const (Value.int IntKind.i64 0)) 3) 4 (v := ?_) rfl (by kernel_rfl) ?_ ‹_› ?_
         rotate_left
         ·(intro w h; (try dsimp only at h); go_simp) <;> with_reducible rfl
         (try simp only [Act.put, yI, yZ, yS])
         refine tkA 2 (some 89) (Op.move (Operand.tmp 88)) 4 (v := ?_) rfl (by kernel_rfl) ?_ ‹_› ?_
         rotate_left
         ·(intro w h; (try dsimp only at h); go_simp) <;> with_reducible rfl
         (try simp only [Act.put, yI, yZ, yS])
         refine tkA 3 (some 90) (Op.move (Operand.tmp 13)) 29 (v := ?_) rfl (by kernel_rfl) ?_ ‹_› ?_
         rotate_left
         ·(intro w h; (try dsimp only at h); go_simp) <;> with_reducible rfl
         (try simp only [Act.put, yI, yZ, yS])
         refine tkA 4 (some 91) (Op.move (Operand.tmp 15)) 3 (v := ?_) rfl (by kernel_rfl) ?_ ‹_› ?_
         rotate_left
         ·(intro w h; (try dsimp only at h); go_simp) <;> with_reducible rfl
         (try simp only [Act.put, yI, yZ, yS])
         refine tkA 5 (some 92) (Op.indexAddr 29 (Operand.tmp 90) (Operand.tmp 91)) 0 (v := ?_) rfl (by kernel_rfl) ?_ ‹_› ?_
         rotate_left
         ·(intro w h; (try dsimp only at h); go_simp) <;> with_reducible rfl
         (try simp only [Act.put, yI, yZ, yS])
         refine tkA 6 (some 93) (Op.fieldAddr 98 (Operand.tmp 92) 0) 0 (v := ?_) rfl (by kernel_rfl) ?_ ‹_› ?_
         rotate_left
         ·(intro w h; (try dsimp only at h); go_simp) <;> with_reducible rfl
         (try simp only [Act.put, yI, yZ, yS])
         refine tkA 7 (some 94) (Op.load 3 (Operand.tmp 93)) 3 (v := ?_) rfl (by kernel_rfl) ?_ ‹_› ?_
         rotate_left
         ·(intro w h; (try dsimp only at h); go_simp) <;> with_reducible rfl
         (try simp only [Act.put, yI, yZ, yS])
         refine tkA 8 (some 95) (Op.move (Operand.tmp 13)) 29 (v := ?_) rfl (by kernel_rfl) ?_ ‹_› ?_
         rotate_left
         ·(intro w h; (try dsimp only at h); go_simp) <;> with_reducible rfl
         (try simp only [Act.put, yI, yZ, yS])
         refine tkA 9 (some 96) (Op.move (Operand.tmp 15)) 3 (v := ?_) rfl (by kernel_rfl) ?_ ‹_› ?_
         rotate_left
         ·(intro w h; (try dsimp only at h); go_simp) <;> with_reducible rfl
         (try simp only [Act.put, yI, yZ, yS])
         refine tkA 10 (some 97) (Op.indexAddr 29 (Operand.tmp 95) (Operand.tmp 96)) 0 (v := ?_) rfl (by kernel_rfl) ?_ ‹_› ?_
         rotate_left
         ·(intro w h; (try dsimp only at h); go_simp) <;> with_reducible rfl
         (try simp only [Act.put, yI, yZ, yS])
         refine tkA 11 (some 98) (Op.fieldAddr 98 (Operand.tmp 97) 1) 0 (v := ?_) rfl (by kernel_rfl) ?_ ‹_› ?_
         rotate_left
         ·(intro w h; (try dsimp only at h); go_simp) <;> with_reducible rfl
         (try simp only [Act.put, yI, yZ, yS])
         refine tkA 12 (some 99) (Op.load 3 (Operand.tmp 98)) 3 (v := ?_) rfl (by kernel_rfl) ?_ ‹_› ?_
         rotate_left
         ·(intro w h; (try dsimp only at h); go_simp) <;> with_reducible rfl
         (try simp only [Act.put, yI, yZ, yS])
         refine tkA 13 (some 100) (Op.binOp BinOp.add 3 (Operand.tmp 94) (Operand.tmp 99) 3) 3 (v := ?_) rfl (by kernel_rfl) ?_ ‹_› ?_
         rotate_left
         ·(intro w h; (try dsimp only at h); go_simp) <;> with_reducible rfl
         (try simp only [Act.put, yI, yZ, yS])
         refine tkA 14 (some 101) (Op.move (Operand.tmp 10)) 29 (v := ?_) rfl (by kernel_rfl) ?_ ‹_› ?_
         rotate_left
         ·(intro w h; (try dsimp only at h); go_simp) <;> with_reducible rfl
         (try simp only [Act.put, yI, yZ, yS])
         refine tkA 15 (some 102) (Op.move (Operand.tmp 14)) 3 (v := ?_) rfl (by kernel_rfl) ?_ ‹_› ?_
         rotate_left
         ·(intro w h; (try dsimp only at h); go_simp) <;> with_reducible rfl
         (try simp only [Act.put, yI, yZ, yS])
         refine tkA 16 (some 103) (Op.indexAddr 29 (Operand.tmp 101) (Operand.tmp 102)) 0 (v := ?_) rfl (by kernel_rfl) ?_ ‹_› ?_
         rotate_left
         ·(intro w h; (try dsimp only at h); go_simp) <;> with_reducible rfl
         (try simp only [Act.put, yI, yZ, yS])
         refine tkA 17 (some 104) (Op.fieldAddr 98 (Operand.tmp 103) 0) 0 (v := ?_) rfl (by kernel_rfl) ?_ ‹_› ?_
         rotate_left
         ·(intro w h; (try dsimp only at h); go_simp) <;> with_reducible rfl
         (try simp only [Act.put, yI, yZ, yS])
         refine tkA 18 (some 105) (Op.load 3 (Operand.tmp 104)) 3 (v := ?_) rfl (by kernel_rfl) ?_ ‹_› ?_
         rotate_left
         ·(intro w h; (try dsimp only at h); go_simp) <;> with_reducible rfl
         (try simp only [Act.put, yI, yZ, yS])
         refine tkA 19 (some 106) (Op.binOp BinOp.eql 3 (Operand.tmp 100) (Operand.tmp 105) 3) 4 (v := ?_) rfl (by kernel_rfl) ?_ ‹_› ?_
         rotate_left
         ·(intro w h; (try dsimp only at h); go_simp) <;> with_reducible rfl
         (try simp only [Act.put, yI, yZ, yS])
         refine tkA 20 (some 107) (Op.pick (Operand.tmp 89) (Operand.tmp 106) (Operand.const (Value.bool false))) 4 (v := ?_) rfl (by kernel_rfl) ?_ ‹_› ?_
         rotate_left
         ·(intro w h; (try dsimp only at h); go_simp) <;> with_reducible rfl
         (try simp only [Act.put, yI, yZ, yS])
         refine wpAnyH_done (by kernel_rfl) ?_ _
         refine NoPanic.normal ?_
         go_wp2_with fail
         go_meet
         refine ⟨?_, rfl⟩
         first | rfl | (simp; done) | (simp; omega)
        case rest =>
         obtain ⟨rfl, rfl⟩ := hcut
         clear hm2 hw0 hw1 hw2
         go_wp2_with (at_builtin; refine wpList_append_lies _ rfl _ _ 29 rfl w0.heap.size 98 i0 (.agg #[.int .i64 0, .int .i64 0]) 2 16 Tryz.underlying29 HI.out.1 HI.out.2.1 HI.out.2.2.1 HI.out.2.2.2 rfl (by decide) (.slice (some ⟨g, 0, none⟩) t c') t (rc L) rfl (mine_owns (show MineR wr.drew _ _ _ _ from HM.out.2.keep fun g _ => rfl) HM.out.1 _) ⟨wr.drew.heap.size, 0, none⟩ 1 1 (rc [⟨rp, rn⟩]) rfl rfl (new_cells wr.drew rp rn) (rc_one _) (by omega) (by unfold maxLen; omega) (by omega) (by simp; omega) _ rfl ?_; intro g1 c1 w4 hrow hgr hat hlt; (have HAP := Lib.hid (app_mine (show MineR wr.drew _ _ _ _ from HM.out.2.keep fun g _ => rfl) HM.out.1 BX.out.drew hsz2 hrow hgr)); clear hrow hgr hat hlt)
         go_roundw
         case rel => exact ⟨j + 1, t + 1, c1, _, by omega, by go_num, rfl, by rw [HAD.out, List.length_append, ← HM.out.1]; rfl, by omega, by rw [HAD.out]; exact HAP.out.1, HAP.out.2⟩
         case measure => simp [intOf]; omega
     ·have e : al.take j = al := List.take_of_length_le (by have := AL.out.1; omega)
      rw [e] at ht hm
      have HM := Lib.hid (And.intro ht (And.intro hm.runs hm.fresh))
      clear ht hm bx e
      go_wp2_with fail
      go_ret2
      exact ⟨A', t, c', by rw [HR.out.2]; rfl, by rw [HR.out.1]; exact HM.out.1, by rw [HR.out.1]; exact HM.out.2.1, below_call BL.out BX.out, HM.out.2.2.mono BL.out.size⟩
   | false =>
    have hall := hst.end_not HQ.out.1
    clear hst
    go_upto_region 14 with (at_builtin; refine wpList_append_lies _ rfl _ _ 29 rfl w.heap.size 98 i0 (.agg #[.int .i64 0, .int .i64 0]) 2 16 Tryz.underlying29 HI.out.1 HI.out.2.1 HI.out.2.2.1 HI.out.2.2.2 rfl (by decide) (.slice A' t c') t (rc all) rfl (mine_owns HM.out.2.2 HM.out.1 _) ⟨wr.heap.size, 0, none⟩ 1 1 (rc [⟨p, n⟩]) rfl rfl (new_cells wr p n) (rc_one _) (by omega) (by unfold maxLen; omega) (by omega) (by simp; omega) _ rfl ?_; intro g1 c1 w4 hrow hgr hat hlt; (have HAP := Lib.hid (app_mine HM.out.2.2 HM.out.1 BR.out hsz hrow hgr)); clear hrow hgr hat hlt)
    have AL := Lib.hid (show t + 1 = (M.ins l p n).length ∧ Runs w4 (some ⟨g1, 0, none⟩) (M.ins l p n) from ⟨by rw [← hall, List.length_append, ← HM.out.1]; rfl, by rw [← hall]; exact HAP.out.1.runs⟩)
    have BL := Lib.hid HAP.out.2
    obtain ⟨tA, htA⟩ : ∃ tA, tA = t + 1 := ⟨_, rfl⟩
    rw [← htA] at AL ⊢
    obtain ⟨A9, hA9⟩ : ∃ A9 : Option Addr, A9 = some ⟨g1, 0, none⟩ := ⟨_, rfl⟩
    rw [← hA9] at AL ⊢
    have htA2 : tA ≤ 102 := by omega
    clear hall HQ htA HAP BR hsz HM hA9
    obtain ⟨al, hal⟩ : ∃ al, al = M.ins l p n := ⟨_, rfl⟩
    rw [← hal] at AL HR HW
    clear hal
    go_wp2_with fail
    go_loopw [13, 14] (fun v i wr => ∃ (j t c' : Nat) (A' : Option Addr), j ≤ tA ∧ i = .int .i64 (j : Int) ∧ v = .slice A' t c' ∧ t = (M.mrg [] (al.take j)).length ∧ t ≤ j ∧ MineR wr w4.heap.size A' (M.mrg [] (al.take j)) c' ∧ Below w4.heap.size w4 wr) (fun v i _ => tA - (intOf i).toNat)
    case atStart => exact ⟨0, 0, 0, none, by omega, rfl, rfl, rfl, by omega, .inl ⟨rfl, rfl, rfl⟩, Below.refl _ _⟩
    case round =>
     obtain ⟨j, t, c', A', hj, rfl, rfl, ht, htj, hm, bx⟩ := hrel
     have BX := Lib.hid bx
     have hsz2 := bx.size
     by_cases hlt2 : j < tA
     ·have hjl : j < al.length := by have := AL.out.1; omega
      obtain ⟨bl2, o2, rfl, hc2⟩ := AL.out.2 (by omega)
      have r0 := (bx.cell (lt_of_cell (hc2 j hjl).1)).trans (hc2 j hjl).1
      have r1 := (bx.cell (lt_of_cell (hc2 j hjl).2)).trans (hc2 j hjl).2
      have hadd := M.mrg_take al j hjl
      have hokL := (M.mrg_ok (al.take j) [] trivial (wk_take j HW.out)).1
      have hwr := wk_at HW.out j hjl
      obtain ⟨L, hL⟩ : ∃ L, L = M.mrg [] (al.take j) := ⟨_, rfl⟩
      rw [← hL] at hadd hokL ht hm
      obtain ⟨x, hx⟩ : ∃ x, x = al[j] := ⟨_, rfl⟩
      rw [← hx] at r0 r1 hadd hwr
      obtain ⟨rp, rn⟩ := x
      simp only at r0 r1 hwr
      have HM := Lib.hid (And.intro ht hm)
      clear hL hx hc2 hjl bx
      rcases Nat.eq_zero_or_pos t with h0 | h0
      ·have eL : L = [] := List.eq_nil_of_length_eq_zero (by rw [← ht]; exact h0)
       have HAD := Lib.hid (show M.mrg [] (al.take (j + 1)) = L ++ [⟨rp, rn⟩] by rw [hadd, eL]; rfl)
       have hw0 : wrap64 ((t : Int) - 1) = -1 := by unfold wrap64; omega
       have hw1 : (t : Int) - 1 = -1 := by omega
       clear hadd hokL hwr eL ht hm h0
       go_wp2_with fail
       go_cut [107] (fun v wy => v = .bool false ∧ wy = wr.drew)
       case first =>
        refine wp_region_noPanic ?_
        refine wp_region_held_drew (S := fun _ => True) (by kernel_rfl) (trivial) (fun hHeld => ?_)
        refine tkA 0 (some 87) (Op.move (Operand.tmp 15)) 3 (v := ?_) rfl (by kernel_rfl) ?_ ‹_› ?_
        rotate_left
        ·(intro w h; (try dsimp only at h); go_simp) <;> with_reducible rfl
        (try simp only [Act.put, yI, yZ, yS])
        refine tkA 1 (some 88) (Op.binOp BinOp.geq 3 (Operand.tmp 87) (Operand.const (Value.int IntKind.i64 0)) 3) 4 (v := ?_) rfl (by kernel_rfl) ?_ ‹_› ?_
        rotate_left
        ·(intro w h; (try dsimp only at h); go_simp) <;> with_reducible rfl
        (try simp only [Act.put, yI, yZ, yS])
        refine tkA 2 (some 89) (Op.move (Operand.tmp 88)) 4 (v := ?_) rfl (by kernel_rfl) ?_ ‹_› ?_
        rotate_left
        ·(intro w h; (try dsimp only at h); go_simp) <;> with_reducible rfl
        (try simp only [Act.put, yI, yZ, yS])
        refine tkO 3 (some 90) rfl (by kernel_rfl) ‹_› ?_
        (try simp only [Act.put, yI, yZ, yS])
        refine tkO 4 (some 91) rfl (by kernel_rfl) ‹_› ?_
        (try simp only [Act.put, yI, yZ, yS])
        refine tkO 5 (some 92) rfl (by kernel_rfl) ‹_› ?_
        (try simp only [Act.put, yI, yZ, yS])
        refine tkO 6 (some 93) rfl (by kernel_rfl) ‹_› ?_
        (try simp only [Act.put, yI, yZ, yS])
        refine tkO 7 (some 94) rfl (by kernel_rfl) ‹_› ?_
        (try simp only [Act.put, yI, yZ, yS])
        refine tkO 8 (some 95) rfl (by kernel_rfl) ‹_› ?_
        (try simp only [Act.put, yI, yZ, yS])
        refine tkO 9 (some 96) rfl (by kernel_rfl) ‹_› ?_
        (try simp only [Act.put, yI, yZ, yS])
        refine tkO 10 (some 97) rfl (by kernel_rfl) ‹_› ?_
        (try simp only [Act.put, yI, yZ, yS])
        refine tkO 11 (some 98) rfl (by kernel_rfl) ‹_› ?_
        (try simp only [Act.put, yI, yZ, yS])
        refine tkO 12 (some 99) rfl (by kernel_rfl) ‹_› ?_
        (try simp only [Act.put, yI, yZ, yS])
        refine tkO 13 (some 100) rfl (by kernel_rfl) ‹_› ?_
        (try simp only [Act.put, yI, yZ, yS])
        refine tkO 14 (some 101) rfl (by kernel_rfl) ‹_› ?_
        (try simp only [Act.put, yI, yZ, yS])
        refine tkO 15 (some 102) rfl (by kernel_rfl) ‹_› ?_
        (try simp only [Act.put, yI, yZ, yS])
        refine tkO 16 (some 103) rfl (by kernel_rfl) ‹_› ?_
        (try simp only [Act.put, yI, yZ, yS])
        refine tkO 17 (some 104) rfl (by kernel_rfl) ‹_› ?_
        (try simp only [Act.put, yI, yZ, yS])
        refine tkO 18 (some 105) rfl (by kernel_rfl) ‹_› ?_
        (try simp only [Act.put, yI, yZ, yS])
        refine tkO 19 (some 106) rfl (by kernel_rfl) ‹_› ?_
        (try simp only [Act.put, yI, yZ, yS])
        refine tkA 20 (some 107) (Op.pick (Operand.tmp 89) (Operand.tmp 106) (Operand.const (Value.bool false))) 4 (v := ?_) rfl (by kernel_rfl) ?_ ‹_› ?_
        rotate_left
        ·(intro w h; (try dsimp only at h); go_simp) <;> with_reducible rfl
        (try simp only [Act.put, yI, yZ, yS])
        refine wpAnyH_done (by kernel_rfl) ?_ _
        refine NoPanic.normal ?_
        go_wp2_with fail
        go_meet
        exact ⟨by first | rfl | (simp; omega), rfl⟩
       case rest =>
        obtain ⟨rfl, rfl⟩ := hcut
        clear hw0 hw1
        go_wp2_with (at_builtin; refine wpList_append_lies _ rfl _ _ 29 rfl w4.heap.size 98 i0 (.agg #[.int .i64 0, .int .i64 0]) 2 16 Tryz.underlying29 HI.out.1 HI.out.2.1 HI.out.2.2.1 HI.out.2.2.2 rfl (by decide) (.slice A' t c') t (rc L) rfl (mine_owns (show MineR wr.drew _ _ _ _ from HM.out.2.keep fun g _ => rfl) HM.out.1 _) ⟨wr.drew.heap.size, 0, none⟩ 1 1 (rc [⟨rp, rn⟩]) rfl rfl (new_cells wr.drew rp rn) (rc_one _) (by omega) (by unfold maxLen; omega) (by omega) (by simp; omega) _ rfl ?_; intro g1 c1 w4 hrow hgr hat hlt; (have HAP := Lib.hid (app_mine (show MineR wr.drew _ _ _ _ from HM.out.2.keep fun g _ => rfl) HM.out.1 BX.out.drew hsz2 hrow hgr)); clear hrow hgr hat hlt)
        go_roundw
        case rel => exact ⟨j + 1, t + 1, c1, _, by omega, by go_num, rfl, by rw [HAD.out, List.length_append, ← HM.out.1]; rfl, by omega, by rw [HAD.out]; exact HAP.out.1, HAP.out.2⟩
        case measure => simp [intOf]; omega
      ·obtain ⟨s, hs⟩ : ∃ s, t = s + 1 := ⟨t - 1, by omega⟩
       have hsl : s < L.length := by omega
       rcases HM.out.2 with ⟨_, h, _⟩ | ⟨g, cs, rfl, hB, hblk, g1, g2, g3, g4⟩
       ·rw [h] at hsl; simp at hsl
       have hlast := rc_at L s hsl
       rw [← g4, List.getElem?_take, List.getElem?_take, if_pos (by omega), if_pos (by omega), ← hblk.cell, ← hblk.cell] at hlast
       have bs := ok_at hokL s hsl
       have hgd := M.getD_at L s hsl
       obtain ⟨y, hy⟩ : ∃ y, y = L[s] := ⟨_, rfl⟩
       rw [← hy] at hlast bs hgd
       obtain ⟨lp, ln⟩ := y
       simp only at hlast bs
       have hls : L.length - 1 = s := by omega
       have hmeet : M.meets L ⟨rp, rn⟩ = decide (lp + ln = rp) := by
        unfold M.meets
        rw [hls, hgd, show decide (0 < L.length) = true by simp; omega, Bool.true_and]
       have hw0 : wrap64 ((t : Int) - 1) = (s : Int) := by unfold wrap64; omega
       have hw1 : (t : Int) - 1 = (s : Int) := by omega
       have hst : s < t := by omega
       have hw2 : IntKind.i64.wrap (lp + ln) = lp + ln := by rw [IntKind.wrap_i64]; omega
       have l0 := hlast.1
       have l1 := hlast.2
       have HS := Lib.hid (show (fun W => W.cell? ⟨g, s * 2, none⟩ = some (.int .i64 lp) ∧ W.cell? ⟨g, s * 2 + 1, none⟩ = some (.int .i64 ln) ∧ W.cell? ⟨bl2, o2 + j * 2, none⟩ = some (.int .i64 rp) ∧ W.cell? ⟨bl2, o2 + j * 2 + 1, none⟩ = some (.int .i64 rn)) wr.drew from ⟨l0, l1, r0, r1⟩)
       have FZ := Lib.hid (hblk.frozen (s * 2 + 1))
       have HML := Lib.hid (HM.out.2.last (t := s) (by omega) (ln + rn))
       have HGB := Lib.hid hB
       by_cases hm2 : lp + ln = rp
       ·have HAD := Lib.hid (show M.mrg [] (al.take (j + 1)) = L.take s ++ [⟨lp, ln + rn⟩] by rw [hadd, M.add, if_pos (by rw [hmeet]; simpa using hm2), hls, hgd])
        have hw3 : IntKind.i64.wrap (ln + rn) = ln + rn := by rw [IntKind.wrap_i64]; omega
        have hw4 : IntKind.i64.wrap rp = rp := by rw [IntKind.wrap_i64]; omega
        have hs2 := hs
        clear hadd hokL hwr ht hm h0 hlast bs hmeet hls hy hsl g1 g2 g3 g4 hs hB hblk
        rw [hgd] at HML
        have HL := Lib.hid (And.intro HML.out (show Below w4.heap.size w4 (wr.setCell ⟨g, s * 2 + 1, none⟩ (.int .i64 (ln + rn))) from BX.out.setCell (p := ⟨g, s * 2 + 1, none⟩) HGB.out _))
        have hts : s + 1 = t := hs2.symm
        clear hs2 hgd
        go_wp2_with fail
        go_cut [107] (fun v wy => v = .bool true ∧ wy = wr.drew)
        case first =>
         have q1 : (lp + ln == rp) = true := by simp; omega
         have q2 : decide (lp + ln = rp) = true := by simp; omega
         have q3 : decide (rp = rp) = true := by simp
         refine wp_region_noPanic ?_
         refine wp_region_held_drew (S := fun W => W.cell? ⟨g, s * 2, none⟩ = some (.int .i64 lp) ∧ W.cell? ⟨g, s * 2 + 1, none⟩ = some (.int .i64 ln) ∧ W.cell? ⟨bl2, o2 + j * 2, none⟩ = some (.int .i64 rp) ∧ W.cell? ⟨bl2, o2 + j * 2 + 1, none⟩ = some (.int .i64 rn)) (by kernel_rfl) (HS.out) (fun hHeld => ?_)
         refine tkA 0 (some 87) (Op.move (Operand.tmp 15)) 3 (v := ?_) rfl (by kernel_rfl) ?_ ‹_› ?_
         rotate_left
         ·(intro w h; (try dsimp only at h); go_simp) <;> with_reducible rfl
         (try simp only [Act.put, yI, yZ, yS])
         refine tkA 1 (some 88) (Op.binOp BinOp.geq 3 (Operand.tmp 87) (Operand.const (Value.int IntKind.i64 0)) 3) 4 (v := ?_) rfl (by kernel_rfl) ?_ ‹_› ?_
         rotate_left
         ·(intro w h; (try dsimp only at h); go_simp) <;> with_reducible rfl
         (try simp only [Act.put, yI, yZ, yS])
         refine tkA 2 (some 89) (Op.move (Operand.tmp 88)) 4 (v := ?_) rfl (by kernel_rfl) ?_ ‹_› ?_
         rotate_left
         ·(intro w h; (try dsimp only at h); go_simp) <;> with_reducible rfl
         (try simp only [Act.put, yI, yZ, yS])
         refine tkA 3 (some 90) (Op.move (Operand.tmp 13)) 29 (v := ?_) rfl (by kernel_rfl) ?_ ‹_› ?_
         rotate_left
         ·(intro w h; (try dsimp only at h); go_simp) <;> with_reducible rfl
         (try simp only [Act.put, yI, yZ, yS])
         refine tkA 4 (some 91) (Op.move (Operand.tmp 15)) 3 (v := ?_) rfl (by kernel_rfl) ?_ ‹_› ?_
         rotate_left
         ·(intro w h; (try dsimp only at h); go_simp) <;> with_reducible rfl
         (try simp only [Act.put, yI, yZ, yS])
         refine tkA 5 (some 92) (Op.indexAddr 29 (Operand.tmp 90) (Operand.tmp 91)) 0 (v := ?_) rfl (by kernel_rfl) ?_ ‹_› ?_
         rotate_left
         ·(intro w h; (try dsimp only at h); go_simp) <;> with_reducible rfl
         (try simp only [Act.put, yI, yZ, yS])
         refine tkA 6 (some 93) (Op.fieldAddr 98 (Operand.tmp 92) 0) 0 (v := ?_) rfl (by kernel_rfl) ?_ ‹_› ?_
         rotate_left
         ·(intro w h; (try dsimp only at h); go_simp) <;> with_reducible rfl
         (try simp only [Act.put, yI, yZ, yS])
         refine tkA 7 (some 94) (Op.load 3 (Operand.tmp 93)) 3 (v := ?_) rfl (by kernel_rfl) ?_ ‹_› ?_
         rotate_left
         ·(intro w h; (try dsimp only at h); go_simp) <;> with_reducible rfl
         (try simp only [Act.put, yI, yZ, yS])
         refine tkA 8 (some 95) (Op.move (Operand.tmp 13)) 29 (v := ?_) rfl (by kernel_rfl) ?_ ‹_› ?_
         rotate_left
         ·(intro w h; (try dsimp only at h); go_simp) <;> with_reducible rfl
         (try simp only [Act.put, yI, yZ, yS])
         refine tkA 9 (some 96) (Op.move (Operand.tmp 15)) 3 (v := ?_) rfl (by kernel_rfl) ?_ ‹_› ?_
         rotate_left
         ·(intro w h; (try dsimp only at h); go_simp) <;> with_reducible rfl
         (try simp only [Act.put, yI, yZ, yS])
         refine tkA 10 (some 97) (Op.indexAddr 29 (Operand.tmp 95) (Operand.tmp 96)) 0 (v := ?_) rfl (by kernel_rfl) ?_ ‹_› ?_
         rotate_left
         ·(intro w h; (try dsimp only at h); go_simp) <;> with_reducible rfl
         (try simp only [Act.put, yI, yZ, yS])
         refine tkA 11 (some 98) (Op.fieldAddr 98 (Operand.tmp 97) 1) 0 (v := ?_) rfl (by kernel_rfl) ?_ ‹_› ?_
         rotate_left
         ·(intro w h; (try dsimp only at h); go_simp) <;> with_reducible rfl
         (try simp only [Act.put, yI, yZ, yS])
         refine tkA 12 (some 99) (Op.load 3 (Operand.tmp 98)) 3 (v := ?_) rfl (by kernel_rfl) ?_ ‹_› ?_
         rotate_left
         ·(intro w h; (try dsimp only at h); go_simp) <;> with_reducible rfl
         (try simp only [Act.put, yI, yZ, yS])
         refine tkA 13 (some 100) (Op.binOp BinOp.add 3 (Operand.tmp 94) (Operand.tmp 99) 3) 3 (v := ?_) rfl (by kernel_rfl) ?_ ‹_› ?_
         rotate_left
         ·(intro w h; (try dsimp only at h); go_simp) <;> with_reducible rfl
         (try simp only [Act.put, yI, yZ, yS])
         refine tkA 14 (some 101) (Op.move (Operand.tmp 10)) 29 (v := ?_) rfl (by kernel_rfl) ?_ ‹_› ?_
         rotate_left
         ·(intro w h; (try dsimp only at h); go_simp) <;> with_reducible rfl
         (try simp only [Act.put, yI, yZ, yS])
         refine tkA 15 (some 102) (Op.move (Operand.tmp 14)) 3 (v := ?_) rfl (by kernel_rfl) ?_ ‹_› ?_
         rotate_left
         ·(intro w h; (try dsimp only at h); go_simp) <;> with_reducible rfl
         (try simp only [Act.put, yI, yZ, yS])
         refine tkA 16 (some 103) (Op.indexAddr 29 (Operand.tmp 101) (Operand.tmp 102)) 0 (v := ?_) rfl (by kernel_rfl) ?_ ‹_› ?_
         rotate_left
         ·(intro w h; (try dsimp only at h); go_simp) <;> with_reducible rfl
         (try simp only [Act.put, yI, yZ, yS])
         refine tkA 17 (some 104) (Op.fieldAddr 98 (Operand.tmp 103) 0) 0 (v := ?_) rfl (by kernel_rfl) ?_ ‹_› ?_
         rotate_left
         ·(intro w h; (try dsimp only at h); go_simp) <;> with_reducible rfl
         (try simp only [Act.put, yI, yZ, yS])
         refine tkA 18 (some 105) (Op.load 3 (Operand.tmp 104)) 3 (v := ?_) rfl (by kernel_rfl) ?_ ‹_› ?_
         rotate_left
         ·(intro w h; (try dsimp only at h); go_simp) <;> with_reducible rfl
         (try simp only [Act.put, yI, yZ, yS])
         refine tkA 19 (some 106) (Op.binOp BinOp.eql 3 (Operand.tmp 100) (Operand.tmp 105) 3) 4 (v := ?_) rfl (by kernel_rfl) ?_ ‹_› ?_
         rotate_left
         ·(intro w h; (try dsimp only at h); go_simp) <;> with_reducible rfl
         (try simp only [Act.put, yI, yZ, yS])
         refine tkA 20 (some 107) (Op.pick (Operand.tmp 89) (Operand.tmp 106) (Operand.const (Value.bool false))) 4 (v := ?_) rfl (by kernel_rfl) ?_ ‹_› ?_
         rotate_left
         ·(intro w h; (try dsimp only at h); go_simp) <;> with_reducible rfl
         (try simp only [Act.put, yI, yZ, yS])
         refine wpAnyH_done (by kernel_rfl) ?_ _
         refine NoPanic.normal ?_
         go_wp2_with fail
         go_meet
         refine ⟨?_, rfl⟩
         first | rfl | (simp; done) | (simp; omega)
        case rest =>
         obtain ⟨rfl, rfl⟩ := hcut
         clear hm2 hw0 hw1 hw2 hw4
         have f0 := FZ.out
         go_wp2_with fail
         refine wp_region_noPanic ?_
         refine wp_region_held_drew (S := fun _ => True) (by kernel_rfl) (trivial) (fun hHeld => ?_)
         refine tkA 0 (some 108) (Op.move (Operand.tmp 13)) 29 (v := ?_) rfl (by kernel_rfl) ?_ ‹_› ?_
         rotate_left
         ·(intro w h; (try dsimp only at h); go_simp) <;> with_reducible rfl
         (try simp only [Act.put, yI, yZ, yS])
         refine tkA 1 (some 109) (Op.move (Operand.tmp 15)) 3 (v := ?_) rfl (by kernel_rfl) ?_ ‹_› ?_
         rotate_left
         ·(intro w h; (try dsimp only at h); go_simp) <;> with_reducible rfl
         (try simp only [Act.put, yI, yZ, yS])
         refine tkA 2 (some 110) (Op.indexAddr 29 (Operand.tmp 108) (Operand.tmp 109)) 0 (v := ?_) rfl (by kernel_rfl) ?_ ‹_› ?_
         rotate_left
         ·(intro w h; (try dsimp only at h); go_simp) <;> with_reducible rfl
         (try simp only [Act.put, yI, yZ, yS])
         refine tkA 3 (some 111) (Op.fieldAddr 98 (Operand.tmp 110) 1) 0 (v := ?_) rfl (by kernel_rfl) ?_ ‹_› ?_
         rotate_left
         ·(intro w h; (try dsimp only at h); go_simp) <;> with_reducible rfl
         (try simp only [Act.put, yI, yZ, yS])
         refine tkA 5 (some 113) (Op.move (Operand.tmp 10)) 29 (v := ?_) rfl (by kernel_rfl) ?_ ‹_› ?_
         rotate_left
         ·(intro w h; (try dsimp only at h); go_simp) <;> with_reducible rfl
         (try simp only [Act.put, yI, yZ, yS])
         refine tkA 6 (some 114) (Op.move (Operand.tmp 14)) 3 (v := ?_) rfl (by kernel_rfl) ?_ ‹_› ?_
         rotate_left
         ·(intro w h; (try dsimp only at h); go_simp) <;> with_reducible rfl
         (try simp only [Act.put, yI, yZ, yS])
         refine tkA 7 (some 115) (Op.indexAddr 29 (Operand.tmp 113) (Operand.tmp 114)) 0 (v := ?_) rfl (by kernel_rfl) ?_ ‹_› ?_
         rotate_left
         ·(intro w h; (try dsimp only at h); go_simp) <;> with_reducible rfl
         (try simp only [Act.put, yI, yZ, yS])
         refine tkA 8 (some 116) (Op.fieldAddr 98 (Operand.tmp 115) 1) 0 (v := ?_) rfl (by kernel_rfl) ?_ ‹_› ?_
         rotate_left
         ·(intro w h; (try dsimp only at h); go_simp) <;> with_reducible rfl
         (try simp only [Act.put, yI, yZ, yS])
         refine rdA (rs := [4, 9]) (by kernel_rfl) ?_ rfl
         refine rcA (some 112) (Op.load 3 (Operand.tmp 111)) 3 rfl (by kernel_rfl) (fun K hK => ?_) ?_
         ·go_simp
          refine hK.out _ _ ?_ (fun hHeld => ?_)
          ·trivial
          clear hK K
          (try simp only [Act.put, yI, yZ, yS])
          refine rdA (rs := [9]) (by kernel_rfl) ?_ rfl
          refine rcA (some 117) (Op.load 3 (Operand.tmp 116)) 3 rfl (by kernel_rfl) (fun K hK => ?_) AllReadyH.nil
          go_simp
          refine hK.out _ _ ?_ (fun hHeld => ?_)
          ·trivial
          clear hK K
          (try simp only [Act.put, yI, yZ, yS])
          refine tkA 10 (some 118) (Op.binOp BinOp.add 3 (Operand.tmp 112) (Operand.tmp 117) 3) 3 (v := ?_) rfl (by kernel_rfl) ?_ ‹_› ?_
          rotate_left
          ·(intro w h; (try dsimp only at h); go_simp) <;> with_reducible rfl
          (try simp only [Act.put, yI, yZ, yS])
          refine tkA 11 (some 119) (Op.indexAddr 29 (Operand.tmp 108) (Operand.tmp 109)) 0 (v := ?_) rfl (by kernel_rfl) ?_ ‹_› ?_
          rotate_left
          ·(intro w h; (try dsimp only at h); go_simp) <;> with_reducible rfl
          (try simp only [Act.put, yI, yZ, yS])
          refine tkA 12 (some 120) (Op.fieldAddr 98 (Operand.tmp 119) 1) 0 (v := ?_) rfl (by kernel_rfl) ?_ ‹_› ?_
          rotate_left
          ·(intro w h; (try dsimp only at h); go_simp) <;> with_reducible rfl
          (try simp only [Act.put, yI, yZ, yS])
          refine rdA (rs := [13]) (by kernel_rfl) ?_ rfl
          refine rcA none (Op.store 3 (Operand.tmp 120) (Operand.tmp 118)) 0 rfl (by kernel_rfl) (fun K hK => ?_) AllReadyH.nil
          go_simp
          refine hK.out _ _ ?_ (fun hHeld => ?_)
          ·trivial
          clear hK K
          (try simp only [Act.put, yI, yZ, yS])
          refine wpAnyH_done (by kernel_rfl) ?_ _
          refine NoPanic.normal ?_
          go_wp2_with fail
          go_roundw
          case rel => exact ⟨j + 1, t, c', _, by omega, by go_num, rfl, by rw [HAD.out, List.length_append, List.length_take, List.length_cons, List.length_nil]; have := HM.out.1; omega, by omega, by rw [HAD.out]; exact HL.out.1.keep fun g _ => rfl, HL.out.2.drew.drew⟩
          case measure => simp [intOf]; omega
         refine rcA (some 117) (Op.load 3 (Operand.tmp 116)) 3 rfl (by kernel_rfl) (fun K hK => ?_) ?_
         ·go_simp
          refine hK.out _ _ ?_ (fun hHeld => ?_)
          ·trivial
          clear hK K
          (try simp only [Act.put, yI, yZ, yS])
          refine rdA (rs := [4]) (by kernel_rfl) ?_ rfl
          refine rcA (some 112) (Op.load 3 (Operand.tmp 111)) 3 rfl (by kernel_rfl) (fun K hK => ?_) AllReadyH.nil
          go_simp
          refine hK.out _ _ ?_ (fun hHeld => ?_)
          ·trivial
          clear hK K
          (try simp only [Act.put, yI, yZ, yS])
          refine tkA 10 (some 118) (Op.binOp BinOp.add 3 (Operand.tmp 112) (Operand.tmp 117) 3) 3 (v := ?_) rfl (by kernel_rfl) ?_ ‹_› ?_
          rotate_left
          ·(intro w h; (try dsimp only at h); go_simp) <;> with_reducible rfl
          (try simp only [Act.put, yI, yZ, yS])
          refine tkA 11 (some 119) (Op.indexAddr 29 (Operand.tmp 108) (Operand.tmp 109)) 0 (v := ?_) rfl (by kernel_rfl) ?_ ‹_› ?_
          rotate_left
          ·(intro w h; (try dsimp only at h); go_simp) <;> with_reducible rfl
          (try simp only [Act.put, yI, yZ, yS])
          refine tkA 12 (some 120) (Op.fieldAddr 98 (Operand.tmp 119) 1) 0 (v := ?_) rfl (by kernel_rfl) ?_ ‹_› ?_
          rotate_left
          ·(intro w h; (try dsimp only at h); go_simp) <;> with_reducible rfl
          (try simp only [Act.put, yI, yZ, yS])
          refine rdA (rs := [13]) (by kernel_rfl) ?_ rfl
          refine rcA none (Op.store 3 (Operand.tmp 120) (Operand.tmp 118)) 0 rfl (by kernel_rfl) (fun K hK => ?_) AllReadyH.nil
          go_simp
          refine hK.out _ _ ?_ (fun hHeld => ?_)
          ·trivial
          clear hK K
          (try simp only [Act.put, yI, yZ, yS])
          refine wpAnyH_done (by kernel_rfl) ?_ _
          refine NoPanic.normal ?_
          go_wp2_with fail
          go_roundw
          case rel => exact ⟨j + 1, t, c', _, by omega, by go_num, rfl, by rw [HAD.out, List.length_append, List.length_take, List.length_cons, List.length_nil]; have := HM.out.1; omega, by omega, by rw [HAD.out]; exact HL.out.1.keep fun g _ => rfl, HL.out.2.drew.drew⟩
          case measure => simp [intOf]; omega
         exact AllReadyH.nil
       ·have HAD := Lib.hid (show M.mrg [] (al.take (j + 1)) = L ++ [⟨rp, rn⟩] by rw [hadd, M.add, if_neg (by rw [hmeet]; simpa using hm2)])
        clear hadd hokL hwr ht hm h0 hlast bs hmeet hls hgd hy hsl g1 g2 g3 g4 hs hB hblk HML
        go_wp2_with fail
        go_cut [107] (fun v wy => v = .bool false ∧ wy = wr.drew)
        case first =>
         have q1 : (lp + ln == rp) = false := by simp; omega
         have q2 : decide (lp + ln = rp) = false := by simp; omega
         refine wp_region_noPanic ?_
         refine wp_region_held_drew (S := fun W => W.cell? ⟨g, s * 2, none⟩ = some (.int .i64 lp) ∧ W.cell? ⟨g, s * 2 + 1, none⟩ = some (.int .i64 ln) ∧ W.cell? ⟨bl2, o2 + j * 2, none⟩ = some (.int .i64 rp) ∧ W.cell? ⟨bl2, o2 + j * 2 + 1, none⟩ = some (.int .i64 rn)) (by kernel_rfl) (HS.out) (fun hHeld => ?_)
         refine tkA 0 (some 87) (Op.move (Operand.tmp 15)) 3 (v := ?_) rfl (by kernel_rfl) ?_ ‹_› ?_
         rotate_left
         ·(intro w h; (try dsimp only at h); go_simp) <;> with_reducible rfl
         (try simp only [Act.put, yI, yZ, yS])
         refine tkA 1 (some 88) (Op.binOp BinOp.geq 3 (Operand.tmp 87) (Operand.const (Value.int IntKind.i64 0)) 3) 4 (v := ?_) rfl (by kernel_rfl) ?_ ‹_› ?_
         rotate_left
         ·(intro w h; (try dsimp only at h); go_simp) <;> with_reducible rfl
         (try simp only [Act.put, yI, yZ, yS])
         refine tkA 2 (some 89) (Op.move (Operand.tmp 88)) 4 (v := ?_) rfl (by kernel_rfl) ?_ ‹_› ?_
         rotate_left
         ·(intro w h; (try dsimp only at h); go_simp) <;> with_reducible rfl
         (try simp only [Act.put, yI, yZ, yS])
         refine tkA 3 (some 90) (Op.move (Operand.tmp 13)) 29 (v := ?_) rfl (by kernel_rfl) ?_ ‹_› ?_
         rotate_left
         ·(intro w h; (try dsimp only at h); go_simp) <;> with_reducible rfl
         (try simp only [Act.put, yI, yZ, yS])
         refine tkA 4 (some 91) (Op.move (Operand.tmp 15)) 3 (v := ?_) rfl (by kernel_rfl) ?_ ‹_› ?_
         rotate_left
         ·(intro w h; (try dsimp only at h); go_simp) <;> with_reducible rfl
         (try simp only [Act.put, yI, yZ, yS])
         refine tkA 5 (some 92) (Op.indexAddr 29 (Operand.tmp 90) (Operand.tmp 91)) 0 (v := ?_) rfl (by kernel_rfl) ?_ ‹_› ?_
         rotate_left
         ·(intro w h; (try dsimp only at h); go_simp) <;> with_reducible rfl
         (try simp only [Act.put, yI, yZ, yS])
         refine tkA 6 (some 93) (Op.fieldAddr 98 (Operand.tmp 92) 0) 0 (v := ?_) rfl (by kernel_rfl) ?_ ‹_› ?_
         rotate_left
         ·(intro w h; (try dsimp only at h); go_simp) <;> with_reducible rfl
         (try simp only [Act.put, yI, yZ, yS])
         refine tkA 7 (some 94) (Op.load 3 (Operand.tmp 93)) 3 (v := ?_) rfl (by kernel_rfl) ?_ ‹_› ?_
         rotate_left
         ·(intro w h; (try dsimp only at h); go_simp) <;> with_reducible rfl
         (try simp only [Act.put, yI, yZ, yS])
         refine tkA 8 (some 95) (Op.move (Operand.tmp 13)) 29 (v := ?_) rfl (by kernel_rfl) ?_ ‹_› ?_
         rotate_left
         ·(intro w h; (try dsimp only at h); go_simp) <;> with_reducible rfl
         (try simp only [Act.put, yI, yZ, yS])
         refine tkA 9 (some 96) (Op.move (Operand.tmp 15)) 3 (v := ?_) rfl (by kernel_rfl) ?_ ‹_› ?_
         rotate_left
         ·(intro w h; (try dsimp only at h); go_simp) <;> with_reducible rfl
         (try simp only [Act.put, yI, yZ, yS])
         refine tkA 10 (some 97) (Op.indexAddr 29 (Operand.tmp 95) (Operand.tmp 96)) 0 (v := ?_) rfl (by kernel_rfl) ?_ ‹_› ?_
         rotate_left
         ·(intro w h; (try dsimp only at h); go_simp) <;> with_reducible rfl
         (try simp only [Act.put, yI, yZ, yS])
         refine tkA 11 (some 98) (Op.fieldAddr 98 (Operand.tmp 97) 1) 0 (v := ?_) rfl (by kernel_rfl) ?_ ‹_› ?_
         rotate_left
         ·(intro w h; (try dsimp only at h); go_simp) <;> with_reducible rfl
         (try simp only [Act.put, yI, yZ, yS])
         refine tkA 12 (some 99) (Op.load 3 (Operand.tmp 98)) 3 (v := ?_) rfl (by kernel_rfl) ?_ ‹_› ?_
         rotate_left
         ·(intro w h; (try dsimp only at h); go_simp) <;> with_reducible rfl
         (try simp only [Act.put, yI, yZ, yS])
         refine tkA 13 (some 100) (Op.binOp BinOp.add 3 (Operand.tmp 94) (Operand.tmp 99) 3) 3 (v := ?_) rfl (by kernel_rfl) ?_ ‹_› ?_
         rotate_left
         ·(intro w h; (try dsimp only at h); go_simp) <;> with_reducible rfl
         (try simp only [Act.put, yI, yZ, yS])
         refine tkA 14 (some 101) (Op.move (Operand.tmp 10)) 29 (v := ?_) rfl (by kernel_rfl) ?_ ‹_› ?_
         rotate_left
         ·(intro w h; (try dsimp only at h); go_simp) <;> with_reducible rfl
         (try simp only [Act.put, yI, yZ, yS])
         refine tkA 15 (some 102) (Op.move (Operand.tmp 14)) 3 (v := ?_) rfl (by kernel_rfl) ?_ ‹_› ?_
         rotate_left
         ·(intro w h; (try dsimp only at h); go_simp) <;> with_reducible rfl
         (try simp only [Act.put, yI, yZ, yS])
         refine tkA 16 (some 103) (Op.indexAddr 29 (Operand.tmp 101) (Operand.tmp 102)) 0 (v := ?_) rfl (by kernel_rfl) ?_ ‹_› ?_
         rotate_left
         ·(intro w h; (try dsimp only at h); go_simp) <;> with_reducible rfl
         (try simp only [Act.put, yI, yZ, yS])
         refine tkA 17 (some 104) (Op.fieldAddr 98 (Operand.tmp 103) 0) 0 (v := ?_) rfl (by kernel_rfl) ?_ ‹_› ?_
         rotate_left
         ·(intro w h; (try dsimp only at h); go_simp) <;> with_reducible rfl
         (try simp only [Act.put, yI, yZ, yS])
         refine tkA 18 (some 105) (Op.load 3 (Operand.tmp 104)) 3 (v := ?_) rfl (by kernel_rfl) ?_ ‹_› ?_
         rotate_left
         ·(intro w h; (try dsimp only at h); go_simp) <;> with_reducible rfl
         (try simp only [Act.put, yI, yZ, yS])
         refine tkA 19 (some 106) (Op.binOp BinOp.eql 3 (Operand.tmp 100) (Operand.tmp 105) 3) 4 (v := ?_) rfl (by kernel_rfl) ?_ ‹_› ?_
         rotate_left
         ·(intro w h; (try dsimp only at h); go_simp) <;> with_reducible rfl
         (try simp only [Act.put, yI, yZ, yS])
         refine tkA 20 (some 107) (Op.pick (Operand.tmp 89) (Operand.tmp 106) (Operand.const (Value.bool false))) 4 (v := ?_) rfl (by kernel_rfl) ?_ ‹_› ?_
         rotate_left
         ·(intro w h; (try dsimp only at h); go_simp) <;> with_reducible rfl
         (try simp only [Act.put, yI, yZ, yS])
         refine wpAnyH_done (by kernel_rfl) ?_ _
         refine NoPanic.normal ?_
         go_wp2_with fail
         go_meet
         refine ⟨?_, rfl⟩
         first | rfl | (simp; done) | (simp; omega)
        case rest =>
         obtain ⟨rfl, rfl⟩ := hcut
         clear hm2 hw0 hw1 hw2
         go_wp2_with (at_builtin; refine wpList_append_lies _ rfl _ _ 29 rfl w4.heap.size 98 i0 (.agg #[.int .i64 0, .int .i64 0]) 2 16 Tryz.underlying29 HI.out.1 HI.out.2.1 HI.out.2.2.1 HI.out.2.2.2 rfl (by decide) (.slice (some ⟨g, 0, none⟩) t c') t (rc L) rfl (mine_owns (show MineR wr.drew _ _ _ _ from HM.out.2.keep fun g _ => rfl) HM.out.1 _) ⟨wr.drew.heap.size, 0, none⟩ 1 1 (rc [⟨rp, rn⟩]) rfl rfl (new_cells wr.drew rp rn) (rc_one _) (by omega) (by unfold maxLen; omega) (by omega) (by simp; omega) _ rfl ?_; intro g1 c1 w4 hrow hgr hat hlt; (have HAP := Lib.hid (app_mine (show MineR wr.drew _ _ _ _ from HM.out.2.keep fun g _ => rfl) HM.out.1 BX.out.drew hsz2 hrow hgr)); clear hrow hgr hat hlt)
         go_roundw
         case rel => exact ⟨j + 1, t + 1, c1, _, by omega, by go_num, rfl, by rw [HAD.out, List.length_append, ← HM.out.1]; rfl, by omega, by rw [HAD.out]; exact HAP.out.1, HAP.out.2⟩
         case measure => simp [intOf]; omega
     ·have e : al.take j = al := List.take_of_length_le (by have := AL.out.1; omega)
      rw [e] at ht hm
      have HM := Lib.hid (And.intro ht (And.intro hm.runs hm.fresh))
      clear ht hm bx e
      go_wp2_with fail
      go_ret2
      exact ⟨A', t, c', by rw [HR.out.2]; rfl, by rw [HR.out.1]; exact HM.out.1, by rw [HR.out.1]; exact HM.out.2.1, below_call BL.out BX.out, HM.out.2.2.mono BL.out.size⟩
theorem rgive_any (w : World) (A : Option Addr) (l : List M.R) (z c : Nat) (hz : z = l.length) (hA : Runs w A l) (hl : z ≤ 100) (hok : M.Ok (-1) 1073741824 l) (N p n : Int) (hN : N ≤ 1073741824) (hN1 : -9223372036854775808 ≤ N) (hp : -9223372036854775808 ≤ p) (hp2 : p ≤ 9223372036854775807) (hn : -9223372036854775808 ≤ n) (hn2 : n ≤ 9223372036854775807) :
  Calls Tryz.prog 69 #[.slice A z c, .int .i64 N, .int .i64 p, .int .i64 n] w (GotGF w (giveL l N p n) (giveB l N p n)) := by
 by_cases h : giveB l N p n = true
 ·exact rgive_yes w A l z c hz hA hl hok N p n hN h
 ·exact rgive_no w A l z c hz hA hl hok N p n hN hN1 hp hp2 hn hn2 (by simpa using h)
end Go.Proofs.YtmboibipabkhaaaGreat
