/-
  The program's Best and Right.
-/
import Derived.Test.YtloiomfbmabfbaaCon5
import Derived.Deep.DeepCutAuto
import Derived.Deep.RegionHeld3
namespace Go.Proofs.Ytloiomfbmabfbaa
open Go.ChangeShapes Go.WideShapes Go.ChangeAt Go.RowKit Go.Deep
set_option linter.unusedVariables false
set_option maxRecDepth 20000

namespace M
/-- The best one so far, one run further. -/
theorem IsBest.skip {l : List R} {n b : Int} {r : R} (h : IsBest l n b) (hr : r.n < n ∨ (0 ≤ b ∧ ∀ k (hk : k < l.length), b = k → l[k].n ≤ r.n)) : IsBest (l ++ [r]) n b := by
  rcases h with ⟨rfl, h⟩ | ⟨k, hk, rfl, h1, h2, h3⟩
  · refine .inl ⟨rfl, h.imp id (fun h s hs => ?_)⟩
    rcases List.mem_append.1 hs with hs | hs
    · exact h s hs
    · rw [List.mem_singleton] at hs
      subst hs
      rcases hr with hr | ⟨hr, _⟩
      · exact hr
      · omega
  · refine .inr ⟨k, by simp; omega, rfl, h1, by rw [List.getElem_append_left hk]; exact h2, fun j hj hn => ?_⟩
    rw [List.getElem_append_left hk]
    rcases Nat.lt_or_ge j l.length with hjl | hjl
    · rw [List.getElem_append_left hjl] at hn ⊢
      exact h3 j hjl hn
    · have e : j = l.length := by simp at hj; omega
      subst e
      rw [List.getElem_append_right (Nat.le_refl _)] at hn ⊢
      simp only [Nat.sub_self, List.getElem_cons_zero] at hn ⊢
      rcases hr with hr | ⟨_, hr⟩
      · omega
      · exact ⟨hr k hk rfl, fun h => by omega⟩
theorem IsBest.take {l : List R} {n b : Int} {r : R} (h : IsBest l n b) (hn : 1 ≤ n) (hr : n ≤ r.n) (hb : b < 0 ∨ ∃ k, ∃ hk : k < l.length, b = (k : Nat) ∧ r.n < l[k].n) : IsBest (l ++ [r]) n (l.length : Int) := by
  refine .inr ⟨l.length, by simp, rfl, hn, by simpa using hr, fun j hj hjn => ?_⟩
  have el : (l ++ [r])[l.length]'(by simp) = r := by simp
  rw [el]
  rcases Nat.lt_or_ge j l.length with hjl | hjl
  · rw [List.getElem_append_left hjl] at hjn ⊢
    rcases h with ⟨rfl, h⟩ | ⟨k, hk, rfl, h1, h2, h3⟩
    · exfalso
      rcases h with h | h
      · omega
      · have := h _ (List.getElem_mem hjl); omega
    · have := h3 j hjl hjn
      rcases hb with hb | ⟨k', hk', e, hb⟩
      · omega
      · have e : k = k' := by omega
        subst e
        exact ⟨by omega, fun _ => by omega⟩
  · have e : j = l.length := by simp at hj; omega
    subst e
    rw [el]
    exact ⟨Int.le_refl _, fun h => by omega⟩
theorem best_none {l : List R} {n : Int} (h : n < 1) : best n l = -1 := (best_eq (.inl ⟨rfl, .inl h⟩)).symm
end M

/-- What is known of the best run so far. -/
def Upto (l : List M.R) (n : Int) (k : Nat) (b p m : Int) : Prop :=
  M.IsBest (l.take k) n b ∧ ((b = -1 ∧ p = 0 ∧ m = 0) ∨ ∃ j, ∃ h : j < l.length, j < k ∧ b = (j : Nat) ∧ p = l[j].p ∧ m = l[j].n)
theorem Upto.skip {l : List M.R} {n : Int} {k : Nat} {b p m : Int} (h : Upto l n k b p m) (hk : k < l.length) (hr : l[k].n < n ∨ (b ≠ -1 ∧ m ≤ l[k].n)) : Upto l n (k + 1) b p m := by
  obtain ⟨h1, h2⟩ := h
  refine ⟨?_, h2.imp id (fun ⟨j, hj, h⟩ => ⟨j, hj, by omega, h.2⟩)⟩
  rw [List.take_succ_eq_append_getElem hk]
  refine h1.skip (hr.imp id (fun ⟨ha, hb⟩ => ?_))
  rcases h2 with ⟨rfl, _⟩ | ⟨j, hj, hjk, rfl, _, rfl⟩
  · exact absurd rfl ha
  · refine ⟨by omega, fun i hi e => ?_⟩
    have e : j = i := by omega
    subst e
    rw [List.getElem_take]
    exact hb
theorem Upto.take {l : List M.R} {n : Int} {k : Nat} {b p m : Int} (h : Upto l n k b p m) (hk : k < l.length) (hn : 1 ≤ n) (hr : n ≤ l[k].n) (hb : b = -1 ∨ l[k].n < m) : Upto l n (k + 1) (k : Int) l[k].p l[k].n := by
  obtain ⟨h1, h2⟩ := h
  refine ⟨?_, .inr ⟨k, hk, by omega, rfl, rfl, rfl⟩⟩
  rw [List.take_succ_eq_append_getElem hk]
  have := h1.take (r := l[k]) hn hr (by
    rcases h2 with ⟨rfl, _⟩ | ⟨j, hj, hjk, rfl, _, rfl⟩
    · exact .inl (by omega)
    · rcases hb with hb | hb
      · omega
      · exact .inr ⟨j, by rw [List.length_take]; omega, rfl, by rw [List.getElem_take]; exact hb⟩)
  rw [List.length_take, Nat.min_eq_left (by omega)] at this
  exact this

set_option maxHeartbeats 2000000 in
theorem best_any (w : World) (A : Option Addr) (l : List M.R) (z c : Nat) (hz : z = l.length) (hA : Runs w A l) (hl : z ≤ 9223372036854775807) (n : Int) :
    Calls Try.prog 40 #[.slice A z c, .int .i64 n] w fun e w' => e = .returned (.int .i64 (M.best n l)) ∧ Below w.heap.size w w' := by
  have HZ := Lib.hid hz
  have HA := Lib.hid hA
  clear hz hA
  go_enter Try.func40, Try.ntmps40
  by_cases hn1 : n < 1
  · go_wp2_with fail
    go_ret
    exact ⟨ret1 (M.best_none hn1).symm, Below.refl _ _⟩
  go_wp2_with fail
  have x0 := Box.new w 51 0 0
  have b0 := (Below.refl w.heap.size w).alloc (Nat.le_refl _) (.cells #[.int .i64 0, .int .i64 0] 51)
  obtain ⟨g, hg⟩ : ∃ g, g = w.heap.size := ⟨_, rfl⟩
  rw [← hg]
  have HG := Lib.hid hg
  have X0 := Lib.hid x0
  have B0 := Lib.hid b0
  clear x0 b0 hg
  go_loopw [5, 14] (fun b i wr => ∃ (k : Nat) (bb p m : Int), k ≤ z ∧ i = .int .i64 (k : Int) ∧ b = .int .i64 bb ∧ Box wr g p m ∧ Upto l n k bb p m ∧ Below w.heap.size w wr) (fun b i _ => z - (intOf i).toNat)
  case atStart => exact ⟨0, -1, 0, 0, by omega, rfl, rfl, by rw [HG.out]; exact X0.out, ⟨.inl ⟨rfl, .inr (fun r h => by simp at h)⟩, .inl ⟨rfl, rfl, rfl⟩⟩, B0.out⟩
  case round =>
    obtain ⟨k, bb, p, m, hk, rfl, rfl, hx, hu, hb⟩ := hrel
    have HB := Lib.hid hb
    have BX := Lib.hid hx
    have HU := Lib.hid hu
    have a0 := hx.c0
    have a1 := hx.c1
    clear hb hu hx
    by_cases hlt : k < z
    · have hkl : k < l.length := by have := HZ.out; omega
      obtain ⟨bl, o, rfl, hc⟩ := HA.out (by omega)
      have c0 := (hc k hkl).1
      have c1 := (hc k hkl).2
      have skip := HU.out.skip hkl
      have tak := HU.out.take hkl hn1
      obtain ⟨x, hx⟩ : ∃ x, x = l[k] := ⟨_, rfl⟩
      rw [← hx] at c0 c1 skip tak
      obtain ⟨p', m'⟩ := x
      simp only at c0 c1 skip tak
      have d0 := (HB.out.cell (lt_of_cell c0)).trans c0
      have d1 := (HB.out.cell (lt_of_cell c1)).trans c1
      have SKIP := Lib.hid skip
      have TAK := Lib.hid tak
      have BN := Lib.hid (show Below w.heap.size w (wr.alloc (.cells #[.int .i64 p', .int .i64 m'] 51)) from HB.out.alloc HB.out.size _)
      have hgw : w.heap.size ≤ g := by rw [HG.out]; exact Nat.le_refl _
      have HGW := Lib.hid hgw
      have a2 := (BX.out.alloc (.cells #[.int .i64 p', .int .i64 m'] 51)).c0
      have a3 := (BX.out.alloc (.cells #[.int .i64 p', .int .i64 m'] 51)).c1
      clear hx hc c0 c1 hk skip tak hgw
      by_cases t1 : m' < n
      · have t1' : decide (n ≤ m') = false := by simp; omega
        go_wp2_with fail
        go_roundw
        case rel => exact ⟨k + 1, bb, p, m, by omega, by go_num, rfl, BX.out.alloc _, SKIP.out (.inl (by omega)), BN.out⟩
        case measure => simp [intOf]; omega
      · rcases HU.out.2 with ⟨rfl, rfl, rfl⟩ | ⟨j, hj, hjk, hbb, hpp, hmm⟩
        · go_wp2_with (go_at_call 42; refine (some_any _ 0 0 false rfl).mono ?_; rintro e w5 ⟨rfl, hb5⟩; (have x5 := (Box.new wr 51 p' m').below hb5); (have g5 := (BX.out.alloc (.cells #[.int .i64 p', .int .i64 m'] 51)).below hb5); (have q0 := x5.c0); (have q1 := x5.c1); (have r0 := g5.c0); (have r1 := g5.c1); (have r2 := g5.f0); (have r3 := g5.f1); (have B5 := Lib.hid (below_call (HB.out.alloc HB.out.size _) (hb5.mono (by simp)))); (have G5 := Lib.hid g5); clear hb5 x5 g5)
          go_region_with fail
          go_wp2_with fail
          go_roundw
          case rel => exact ⟨k + 1, k, p', m', by omega, by go_num, by go_num, (G5.out.set p' m').drew, TAK.out (by omega) (by simp), (below_set B5.out HGW.out _ _).drew⟩
          case measure => simp [intOf]; omega
        · have hm1 : 1 ≤ m := by
            rcases HU.out.1 with ⟨h, _⟩ | ⟨j', hj', e, h1, h2, _⟩
            · omega
            · have e : j = j' := by omega
              subst e
              rw [List.getElem_take, ← hmm] at h2
              omega
          have HM := Lib.hid (show bb ≠ -1 from by omega)
          clear hj hjk hbb hpp hmm
          by_cases t2 : m' < m
          · go_wp2_with (go_at_call 42; refine (some_any _ p m true (by simp; omega)).mono ?_; rintro e w5 ⟨rfl, hb5⟩; (have x5 := (Box.new wr 51 p' m').below hb5); (have g5 := (BX.out.alloc (.cells #[.int .i64 p', .int .i64 m'] 51)).below hb5); (have q0 := x5.c0); (have q1 := x5.c1); (have r0 := g5.c0); (have r1 := g5.c1); (have r2 := g5.f0); (have r3 := g5.f1); (have B5 := Lib.hid (below_call (HB.out.alloc HB.out.size _) (hb5.mono (by simp)))); (have G5 := Lib.hid g5); clear hb5 x5 g5)
            go_region_with fail
            go_wp2_with fail
            go_roundw
            case rel => exact ⟨k + 1, k, p', m', by omega, by go_num, by go_num, (G5.out.set p' m').drew, TAK.out (by omega) (.inr t2), (below_set B5.out HGW.out _ _).drew⟩
            case measure => simp [intOf]; omega
          · go_wp2_with (go_at_call 42; refine (some_any _ p m true (by simp; omega)).mono ?_; rintro e w5 ⟨rfl, hb5⟩; (have x5 := (Box.new wr 51 p' m').below hb5); (have g5 := (BX.out.alloc (.cells #[.int .i64 p', .int .i64 m'] 51)).below hb5); (have q0 := x5.c0); (have q1 := x5.c1); (have r0 := g5.c0); (have r1 := g5.c1); (have r2 := g5.f0); (have r3 := g5.f1); (have B5 := Lib.hid (below_call (HB.out.alloc HB.out.size _) (hb5.mono (by simp)))); (have G5 := Lib.hid g5); clear hb5 x5 g5)
            go_roundw
            case rel => exact ⟨k + 1, bb, p, m, by omega, by go_num, rfl, G5.out, SKIP.out (.inr ⟨HM.out, by omega⟩), B5.out⟩
            case measure => simp [intOf]; omega
    · go_wp2_with fail
      go_ret
      have e : l.take k = l := List.take_of_length_le (by have := HZ.out; omega)
      have hu := HU.out.1
      rw [e] at hu
      exact ⟨ret1 (M.best_eq hu), HB.out⟩

/-! Right. -/
theorem M.Ok.adj {N : Int} : ∀ {l : List M.R} {a : Int}, M.Ok a N l → ∀ j (h : j + 1 < l.length), l[j].p + l[j].n < l[j + 1].p := by
  intro l
  induction l with
  | nil => intro a _ j h; simp at h
  | cons r l ih =>
    intro a hok j h
    cases j with
    | zero =>
      have := hok.2.2.2.2.mem (l[0]'(by simpa using h)) (List.getElem_mem _)
      simp only [List.getElem_cons_zero, List.getElem_cons_succ]
      exact this.1
    | succ j => exact ih hok.2.2.2.2 j (by simpa using h)
/-- The first k runs may be. -/
def Pre (l : List M.R) (N : Int) (k : Nat) : Prop := (∀ j (hj : j < l.length), j < k → fitsB l[j].p l[j].n N = true) ∧ ∀ j (hj : j + 1 < l.length), j + 1 < k → l[j].p + l[j].n < l[j + 1].p
theorem Pre.zero (l : List M.R) (N : Int) : Pre l N 0 := ⟨fun j _ h => by omega, fun j _ h => by omega⟩
theorem Pre.one {l : List M.R} {N : Int} (hk : 0 < l.length) (h1 : fitsB l[0].p l[0].n N = true) : Pre l N 1 :=
  ⟨fun j hj h => by obtain rfl : j = 0 := by omega
                    exact h1, fun j _ h => by omega⟩
theorem Pre.next {l : List M.R} {N : Int} {k : Nat} (h : Pre l N (k + 1)) (hk : k + 1 < l.length) (h1 : fitsB l[k + 1].p l[k + 1].n N = true) (h2 : l[k].p + l[k].n < l[k + 1].p) : Pre l N (k + 1 + 1) :=
  ⟨fun j hj hjk => by
    rcases Nat.lt_or_ge j (k + 1) with h3 | h3
    · exact h.1 j hj h3
    · obtain rfl : j = k + 1 := by omega
      exact h1, fun j hj hjk => by
    rcases Nat.lt_or_ge (j + 1) (k + 1) with h3 | h3
    · exact h.2 j hj h3
    · obtain rfl : j = k := by omega
      exact h2⟩
theorem okB_bad1 {l : List M.R} {N : Int} (k : Nat) (hk : k < l.length) (h : fitsB l[k].p l[k].n N = false) : M.okB (-1) N l = false := by
  rw [← Bool.not_eq_true, M.okB_iff]
  intro hok
  rw [(fitsB_iff _ _ _).2 (hok.mem _ (List.getElem_mem hk)).2] at h
  cases h
theorem okB_bad2 {l : List M.R} {N : Int} (k : Nat) (hk : k + 1 < l.length) (h : l[k + 1].p ≤ l[k].p + l[k].n) : M.okB (-1) N l = false := by
  rw [← Bool.not_eq_true, M.okB_iff]
  intro hok
  have := hok.adj k hk
  omega
theorem okB_good (N : Int) : ∀ (l : List M.R) (a : Int), (∀ h : 0 < l.length, a < l[0].p) → Pre l N l.length → M.okB a N l = true := by
  intro l
  induction l with
  | nil => intro a _ _; rfl
  | cons r l ih =>
    intro a h0 h1
    rw [M.okB_iff]
    have hr := (fitsB_iff _ _ _).1 (h1.1 0 (by simp) (by simp))
    simp only [List.getElem_cons_zero] at hr
    refine ⟨h0 (by simp), hr.1, hr.2.1, hr.2.2, ?_⟩
    rw [← M.okB_iff]
    refine ih _ (fun h => ?_) ⟨fun j hj _ => ?_, fun j hj _ => ?_⟩
    · exact h1.2 0 (by simpa using h) (by simpa using h)
    · exact h1.1 (j + 1) (by simpa using hj) (by simpa using hj)
    · exact h1.2 (j + 1) (by simpa using hj) (by simpa using hj)

end Go.Proofs.Ytloiomfbmabfbaa
