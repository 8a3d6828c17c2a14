/-
  The document's Len, Pages and Push of chunks that are kept.
-/
import Derived.Test.YtmboibipabkhaaaGreatKxN9
import Derived.Test.YtmboibipabkhaaaGreatKxR7
import Derived.Test.YtmboibipabkhaaaGreatKxK1
import Derived.Deep.AppendLies
namespace Go.Proofs.YtmboibipabkhaaaGreat
open Go.ChangeShapes Go.WideShapes Go.ChangeAt Go.RowKit Go.Deep
set_option linter.unusedVariables false
set_option maxRecDepth 20000
def Off (g : Nat) (A : Option Addr) : Prop := ∀ a, A = some a → a.block ≠ g
theorem Off.none (g : Nat) : Off g Option.none := fun a h => by cases h
section
variable {w w' : World} {B n c : Nat} {t : TypeId} {A : Option Addr} {l : List M.R} {v : Value}
theorem own_form (h : w.ownsRow B t 2 v n (rc l)) : ∃ A cap, v = .slice A n cap := by
 obtain ⟨hl, h⟩ := h
 rcases h with ⟨rfl, rfl⟩ | ⟨g', cap, cur, rfl, hb, hg', r⟩
 ·exact ⟨_, _, rfl⟩
 ·exact ⟨_, _, rfl⟩
theorem own_runs (h : w.ownsRow B t 2 (.slice A n c) n (rc l)) (hn : n = l.length) : Runs w A l := fun hl => by
 obtain ⟨h1, h⟩ := h
 rcases h with ⟨e, e2⟩ | ⟨g, cap, cur, e, hb, hg, k1, k2, k3, k4⟩
 ·omega
 ·injection e with e1 e2 e3
  subst e1 e3
  refine ⟨g, 0, rfl, fun i hi => ?_⟩
  have at_ : ∀ j, j < n * 2 → w.cell? ⟨g, j, none⟩ = (rc l)[j]? := fun j hj => by
   rw [cell_of_row w g j cur t (0, 0) hg, ← k4, List.getElem?_take_of_lt hj]
   simp
  have := rc_at l i hi
  rw [Nat.zero_add, at_ _ (by omega), at_ _ (by omega)]
  exact this
theorem own_new (h : w.ownsRow B t 2 (.slice A n c) n (rc l)) : ∀ a, A = some a → B ≤ a.block ∧ a.block < w.heap.size := fun a e => h.lt a.block (by rw [e]; rfl)
theorem own_cap (h : w.ownsRow B t 2 (.slice A n c) n (rc l)) : n ≤ c := by
 obtain ⟨h1, h⟩ := h
 rcases h with ⟨e, e2⟩ | ⟨g, cap, cur, e, hb, hg, k1, k2, k3, k4⟩
 ·omega
 ·injection e with e1 e2 e3
  omega
theorem own_low (h : w.ownsRow B t 2 v n (rc l)) : ∀ k, v.ownBlock = some k → B ≤ k := fun k hk => (h.lt k hk).1
end
theorem infoE : ∃ i, Tryz.prog.info? 100 = some i ∧ i.zero = some (.agg #[.int .i64 0, .int .i64 0]) ∧ i.size = 2 ∧ i.bytes = 16 := ⟨_, by rfl, by rfl, by rfl, by rfl⟩
theorem run_append0E (w : World) (ty : TypeId) (A : Option Addr) (n c : Nat) (hn : n ≤ c) (B : Option Addr) (mc : Nat) : (Builtin.append_ #[32, 32] ty #[.slice A n c, .slice B 0 mc]).run Tryz.prog w = .ok (.slice A n c) w := by
 obtain ⟨i, hi, hz, hs, hb⟩ := infoE
 have hl : ∀ (x : Addr), (loadCells x 0).run Tryz.prog w = .ok #[] w := fun x => by simpa using run_loadCells_list (P := Tryz.prog) w x [] (by simp)
 cases A <;> cases B <;> simp [Builtin.append_, run_underlying Tryz.underlying32, Builtin.lenOf, Builtin.firstCells, sizeOf, typeInfo, hi, hs, hn, hl, storeCells]
theorem newE (w : World) (p q : Int) : ∀ j u, (rc [⟨p, q⟩])[j]? = some u → (w.alloc (.cells #[.int .i64 p, .int .i64 q] 100)).cell? ((⟨w.heap.size, 0, none⟩ : Addr).add j) = some u := fun j u hu => by
 rw [Addr.add_lit, Nat.zero_add, World.cell?_alloc_mark, ← hu, show rc [⟨p, q⟩] = [.int .i64 p, .int .i64 q] from rfl]
 simp
theorem runs_news {w : World} {bl o : Nat} {l : List M.R} (h : ∀ i (h : i < l.length), w.cell? ⟨bl, o + i * 2, none⟩ = some (.int .i64 l[i].p) ∧ w.cell? ⟨bl, o + i * 2 + 1, none⟩ = some (.int .i64 l[i].n)) :
  ∀ j u, (rc l)[j]? = some u → w.cell? ((⟨bl, o, none⟩ : Addr).add j) = some u := fun j u hu => by
 rw [Addr.add_lit]
 exact runs_cells h j u hu
def Mv (w w' : World) (A A' : Option Addr) : Prop := A' = A ∨ ∀ a, A' = some a → w.heap.size ≤ a.block ∧ a.block < w'.heap.size
theorem Mv.off {w w' : World} {A A' : Option Addr} (h : Mv w w' A A') : ∀ g, g < w.heap.size → Off g A → Off g A' := fun g hg ho => by
 rcases h with rfl | h
 ·exact ho
 ·intro a e
  have := (h a e).1
  omega
def GotE (w : World) (A : Option Addr) (l : List M.R) (mk : Value → Value) (e : Ending) (w' : World) : Prop :=
 ∃ A' z' c', e = .returned (mk (.slice A' z' c')) ∧ z' = l.length ∧ z' ≤ c' ∧ Runs w' A' l ∧ Below w.heap.size w w' ∧ Mv w w' A A'
set_option maxHeartbeats 1000000 in
theorem rflen_any (w : World) (A : Option Addr) (l : List M.R) (z c : Nat) (hz : z = l.length) (hA : Runs w A l) (hl : z ≤ 1000) (cl : Int) :
  Calls Tryz.prog 68 #[.slice A z c, .int .i64 cl] w fun e w' => e = .returned (.int .i64 ((M.sel l cl).length : Int)) ∧ w = w' := by
 have HZ := Lib.hid hz
 have HA := Lib.hid hA
 clear hz hA
 go_enter Tryz.func68, Tryz.ntmps68
 go_wp2_with fail
 go_loop [5, 6] (fun n i => ∃ k t : Nat, k ≤ z ∧ t ≤ k ∧ t = (M.sel (l.take k) cl).length ∧ i = .int .i64 (k : Int) ∧ n = .int .i64 (t : Int)) (fun n i => z - (intOf i).toNat)
 case atStart => exact ⟨0, 0, by omega, by omega, rfl, rfl, rfl⟩
 case round =>
  obtain ⟨k, t, hk, htk, ht, rfl, rfl⟩ := hrel
  have HT := Lib.hid ht
  clear ht
  by_cases hlt : k < z
  ·have hkl : k < l.length := by have := HZ.out; omega
   obtain ⟨bl, o, rfl, hc⟩ := HA.out (by omega)
   have c0 := (hc k hkl).1
   have ts := M.sel_take_succ l k hkl cl
   obtain ⟨x, hx⟩ : ∃ x, x = l[k].p := ⟨_, rfl⟩
   rw [← hx] at c0 ts
   clear hc hx
   by_cases e : x = cl
   ·have TS := Lib.hid (show (M.sel (l.take (k + 1)) cl).length = t + 1 by rw [ts, if_pos e, List.length_append, ← HT.out]; rfl)
    subst e
    clear ts hkl
    go_wp2_with fail
    go_round
    case rel => exact ⟨k + 1, t + 1, by omega, by omega, TS.out.symm, by go_num, by go_num⟩
    case measure => simp [intOf]; omega
   ·have TS := Lib.hid (show (M.sel (l.take (k + 1)) cl).length = t by rw [ts, if_neg e, List.append_nil, ← HT.out])
    have ee : (x == cl) = false := by simp [e]
    clear ts hkl e
    go_wp2_with fail
    go_round
    case rel => exact ⟨k + 1, t, by omega, by omega, TS.out.symm, by go_num, rfl⟩
    case measure => simp [intOf]; omega
  ·have e : l.take k = l := List.take_of_length_le (by have := HZ.out; omega)
   have HE := Lib.hid e
   clear e
   go_wp2_with fail
   go_ret
   exact ⟨ret1 (by rw [HT.out, HE.out]), rfl⟩
theorem pushL_yes {l : List M.R} {c p : Int} (h : M.pushB (M.sel l) c p = true) : M.pushL l c p = l ++ [⟨c, p⟩] := by unfold M.pushL; rw [if_pos h]
theorem pushL_no {l : List M.R} {c p : Int} (h : M.pushB (M.sel l) c p = false) : M.pushL l c p = l := by unfold M.pushL; rw [if_neg (by simp [h])]
set_option maxHeartbeats 4000000 in
theorem rfpush_any (w : World) (A : Option Addr) (l : List M.R) (z c : Nat) (hz : z = l.length) (hA : Runs w A l) (hl : z ≤ 1000) (hzc : z ≤ c) (hg : M.Good (M.sel l)) (cl p : Int) :
  Calls Tryz.prog 40 #[.slice A z c, .int .i64 cl, .int .i64 p] w (GotE w A (M.pushL l cl p) fun v => .tuple #[v, .bool (M.pushB (M.sel l) cl p)]) := by
 have h4 := hg.four cl
 obtain ⟨n, hn⟩ : ∃ n, (M.sel l cl).length = n := ⟨_, rfl⟩
 obtain ⟨q, hq⟩ : ∃ q, M.pg cl = q := ⟨_, rfl⟩
 rw [hn] at h4
 have LEN := Lib.hid (fun W hW => rflen_any W A l z c hz hW hl cl)
 have HA := Lib.hid hA
 have HZ := Lib.hid hz
 have HQ := Lib.hid hq
 have HN := Lib.hid hn
 by_cases hb : 0 ≤ cl ∧ cl < 7 ∧ 0 ≤ p ∧ n < 4
 ·have BB : M.pushB (M.sel l) cl p = true := (M.pushB_iff _ _ _).2 (by rw [hn]; exact hb)
  rw [pushL_yes BB, BB]
  obtain ⟨b1, b2, b3, b4⟩ := hb
  have hp : 1 ≤ q := by
   have := M.pg_pos cl.toNat (by omega)
   rw [show ((cl.toNat : Nat) : Int) = cl by omega, hq] at this
   exact this
  have hq0 : (q == 0) = false := by simp; omega
  have hn4 : ((n : Int) == 4) = false := by simp; omega
  obtain ⟨i0, hi, hi0, hi1, hi2⟩ := infoE
  have HI := Lib.hid (And.intro hi (And.intro hi0 (And.intro hi1 hi2)))
  clear hi hi0 hi1 hi2 hq hn hg hA hz BB b1 b2 b4 hp
  go_enter Tryz.func40, Tryz.ntmps40
  go_wp2_with fail
  refine (rcpages_at cl q rfl HQ.out _).mono ?_
  rintro e w' ⟨rfl, rfl⟩
  go_wp2_with fail
  refine (LEN.out _ HA.out).mono ?_
  rintro e w' ⟨rfl, rfl⟩
  rw [HN.out]
  rcases Nat.eq_zero_or_pos z with h0 | h0
  ·subst h0
   have el : l = [] := List.eq_nil_of_length_eq_zero HZ.out.symm
   subst el
   have ap := fun (ty : TypeId) => run_append0E w ty none 0 0 (Nat.le_refl _) A c
   have NEW := Lib.hid (newE w cl p)
   have OWN := Lib.hid (((World.ownsRow_nil w w.heap.size 100 2)).alloc (.cells #[.int .i64 cl, .int .i64 p] 100))
   have bA : Below w.heap.size w (w.alloc (.cells #[.int .i64 cl, .int .i64 p] 100)) := (Below.refl _ _).alloc (Nat.le_refl _) _
   have BA := Lib.hid bA
   clear bA
   go_upto_region 5 with (at_builtin; refine Lib.wpList_append_run _ rfl _ _ 32 32 rfl (.slice none 0 0) (.slice A 0 c) rfl rfl (.slice none 0 0) w (ap _) ?_)
   clear ap
   go_wp2_with (at_builtin; refine wpList_append_own _ rfl _ _ 32 rfl w.heap.size 100 i0 (.agg #[.int .i64 0, .int .i64 0]) 2 16 Tryz.underlying32 HI.out.1 HI.out.2.1 HI.out.2.2.1 HI.out.2.2.2 rfl (by decide) (.slice none 0 0) 0 [] rfl OWN.out ⟨w.heap.size, 0, none⟩ 1 1 (rc [⟨cl, p⟩]) rfl rfl NEW.out (rc_one _) (by unfold maxLen; omega) (by omega) BA.out.size ?_; intro v' w4 hrow hgr hnil; obtain ⟨A', c', rfl⟩ := own_form (l := [⟨cl, p⟩]) hrow; (have RES := Lib.hid (show GotE w A ([] ++ [⟨cl, p⟩]) (fun v => .tuple #[v, .bool true]) (.returned (.tuple #[.slice A' (0 + 1) c', .bool true])) w4 from ⟨A', 0 + 1, c', rfl, rfl, own_cap (l := [⟨cl, p⟩]) hrow, own_runs (l := [⟨cl, p⟩]) hrow rfl, BA.out.grown hgr BA.out.size (fun k hk => by simp [Value.ownBlock] at hk), .inr (own_new (l := [⟨cl, p⟩]) hrow)⟩)); clear hrow hgr hnil)
   go_ret2
   exact RES.out
  ·obtain ⟨bl, o, rfl, hc⟩ := HA.out (by rw [← HZ.out]; exact h0)
   have NW1 := Lib.hid (runs_news hc)
   have HRL := Lib.hid (show (rc l).length = z * 2 by rw [rc_length, HZ.out])
   have OWN := Lib.hid (World.ownsRow_nil w w.heap.size 100 2)
   clear hc
   go_upto_region 5 with (at_builtin; refine wpList_append_lies _ rfl _ _ 32 rfl w.heap.size 100 i0 (.agg #[.int .i64 0, .int .i64 0]) 2 16 Tryz.underlying32 HI.out.1 HI.out.2.1 HI.out.2.2.1 HI.out.2.2.2 rfl (by decide) (.slice none 0 0) 0 [] rfl OWN.out ⟨bl, o, none⟩ z c (rc l) rfl HRL.out NW1.out (rc_one _) h0 (by unfold maxLen; omega) (by omega) (Nat.le_refl _) _ rfl ?_; intro g1 c1 w4 hrow hgr hat hlt; simp only [Nat.zero_add, List.nil_append] at hrow; (have H4 := Lib.hid (show w4.ownsRow w.heap.size 100 2 (.slice (some ⟨g1, 0, none⟩) z c1) z (rc l) ∧ Below w.heap.size w w4 from ⟨hrow, (Below.refl _ _).grown hgr (Nat.le_refl _) (fun k hk => by simp [Value.ownBlock] at hk)⟩)); clear hrow hgr hat hlt)
   have NEW := Lib.hid (newE w4 cl p)
   have OWN2 := Lib.hid (H4.out.1.alloc (.cells #[.int .i64 cl, .int .i64 p] 100))
   have BA := Lib.hid (H4.out.2.alloc H4.out.2.size (.cells #[.int .i64 cl, .int .i64 p] 100))
   go_wp2_with (at_builtin; refine wpList_append_lies _ rfl _ _ 32 rfl w.heap.size 100 i0 (.agg #[.int .i64 0, .int .i64 0]) 2 16 Tryz.underlying32 HI.out.1 HI.out.2.1 HI.out.2.2.1 HI.out.2.2.2 rfl (by decide) (.slice (some ⟨g1, 0, none⟩) z c1) z (rc l) rfl OWN2.out ⟨w4.heap.size, 0, none⟩ 1 1 (rc [⟨cl, p⟩]) rfl rfl NEW.out (rc_one _) (by omega) (by unfold maxLen; omega) (by omega) BA.out.size _ rfl ?_; intro g5 c5 w5 hrow hgr hat hlt; (have RES := Lib.hid (show GotE w (some ⟨bl, o, none⟩) (l ++ [⟨cl, p⟩]) (fun v => .tuple #[v, .bool true]) (.returned (.tuple #[.slice (some ⟨g5, 0, none⟩) (z + 1) c5, .bool true])) w5 from ⟨_, z + 1, c5, rfl, by rw [List.length_append, ← HZ.out]; rfl, own_cap (l := l ++ [⟨cl, p⟩]) (by rw [rc_append]; exact hrow), own_runs (l := l ++ [⟨cl, p⟩]) (by rw [rc_append]; exact hrow) (by rw [List.length_append, ← HZ.out]; rfl), BA.out.grown hgr BA.out.size (own_low OWN2.out), .inr (own_new (l := l ++ [⟨cl, p⟩]) (by rw [rc_append]; exact hrow))⟩)); clear hrow hgr hat hlt)
   go_ret2
   exact RES.out
 ·have BB : M.pushB (M.sel l) cl p = false := M.pushB_no _ _ _ (by rw [hn]; exact hb)
  rw [pushL_no BB, BB]
  have RES := Lib.hid (show GotE w A l (fun v => .tuple #[v, .bool false]) (.returned (.tuple #[.slice A z c, .bool false])) w from ⟨A, z, c, rfl, hz, hzc, hA, Below.refl _ _, .inl rfl⟩)
  by_cases hc : 0 ≤ cl ∧ cl < 7
  ·have hp : 1 ≤ q := by
    have := M.pg_pos cl.toNat (by omega)
    rw [show ((cl.toNat : Nat) : Int) = cl by omega, hq] at this
    exact this
   have hq0 : (q == 0) = false := by simp; omega
   by_cases hp0 : p < 0
   ·clear hq hn h4 hb hc hp hz hA hg BB
    go_enter Tryz.func40, Tryz.ntmps40
    go_wp2_with fail
    refine (rcpages_at cl q rfl HQ.out _).mono ?_
    rintro e w' ⟨rfl, rfl⟩
    go_wp2_with fail
    go_ret2
    exact RES.out
   ·have e4 : n = 4 := by omega
    subst e4
    clear hq hn h4 hb hc hp hz hA hg BB
    go_enter Tryz.func40, Tryz.ntmps40
    go_wp2_with fail
    refine (rcpages_at cl q rfl HQ.out _).mono ?_
    rintro e w' ⟨rfl, rfl⟩
    go_wp2_with fail
    refine (LEN.out _ HA.out).mono ?_
    rintro e w' ⟨rfl, rfl⟩
    rw [HN.out]
    go_wp2_with fail
    go_ret2
    exact RES.out
  ·have e0 : q = 0 := by rw [← hq]; exact M.pg_out cl (by omega)
   subst e0
   clear hq hn h4 hb hc hz hA hg BB
   go_enter Tryz.func40, Tryz.ntmps40
   go_wp2_with fail
   refine (rcpages_at cl 0 rfl HQ.out _).mono ?_
   rintro e w' ⟨rfl, rfl⟩
   go_wp2_with fail
   go_ret2
   exact RES.out
end Go.Proofs.YtmboibipabkhaaaGreat
