/-
  Push, Pop, Clear and Pages of a Cache.
-/
import Derived.Test.YteiiiapjloincaaC9
namespace Go.Proofs.Yteiiiapjloincaa
open Go.ChangeShapes Go.WideShapes Go.ChangeAt Go.RowKit Go.Deep
set_option linter.unusedVariables false
set_option maxRecDepth 20000

theorem cagrown_two (w : World) (g a b : Nat) (u v : Value) : w.grownBy ((w.setCell ⟨g, a, none⟩ u).setCell ⟨g, b, none⟩ v) (some g) :=
  only_setCell (only_setCell ⟨rfl, rfl, rfl, Nat.le_refl _, fun _ _ _ => rfl⟩ (p := ⟨g, a, none⟩) rfl u) (p := ⟨g, b, none⟩) rfl v
theorem cagrown_refl (w : World) (g : Nat) : w.grownBy w (some g) := ⟨rfl, rfl, rfl, Nat.le_refl _, fun _ _ _ => rfl⟩

set_option maxHeartbeats 1000000 in
theorem capush_any (w : World) (g : Nat) (f : M.Ky) (h : IsC w g f) (c p : Int) :
    Calls Try.prog 11 #[.pointer (some ⟨g, 0, none⟩), .int .i64 c, .int .i64 p] w fun e w' => e = .returned (.bool (M.pushB f c p)) ∧ IsC w' g (M.pushF f c p) ∧ w.grownBy w' (some g) := by
  have H := Lib.hid h
  have h4 := h.good.four c
  clear h
  obtain ⟨n, hn⟩ : ∃ n, (f c).length = n := ⟨_, rfl⟩
  obtain ⟨q, hq⟩ : ∃ q, M.pg c = q := ⟨_, rfl⟩
  rw [hn] at h4
  by_cases hb : 0 ≤ c ∧ c < 7 ∧ 0 ≤ p ∧ n < 4
  · obtain ⟨k, rfl⟩ : ∃ k : Nat, c = k := ⟨c.toNat, by omega⟩
    obtain ⟨b1, b2, b3, b4⟩ := hb
    have hk : k < 7 := by omega
    have hp := M.pg_pos k hk
    rw [hq] at hp
    have hq0 : (q == 0) = false := by simp; omega
    have hn4 : ((n : Int) == 4) = false := by simp; omega
    have BB := Lib.hid ((M.pushB_iff f k p).2 ⟨b1, b2, b3, by omega⟩)
    have NEW := Lib.hid (H.out.push k n hk b4 hn p b3)
    have c0 := H.out.c0 k n hk b4
    have c1 := H.out.c1 k n hk b4
    rw [hn, if_neg (by omega)] at c1
    rw [List.getD, List.getElem?_eq_none (by omega)] at c0
    simp only [Option.getD_none] at c0
    have f0 := H.out.fr (k * 8 + n * 2)
    have f1 := H.out.fr (k * 8 + n * 2 + 1)
    rw [hq] at NEW
    have HQ := Lib.hid hq
    have HN := Lib.hid hn
    clear hq hn h4
    go_enter Try.func11, Try.ntmps11
    go_wp2_with fail
    refine (cpages_at (k : Int) q rfl HQ.out _).mono ?_
    rintro e w' ⟨rfl, rfl⟩
    go_wp2_with fail
    refine (calen_any _ g f H.out k).mono ?_
    rintro e w' ⟨rfl, rfl⟩
    rw [HN.out]
    go_wp2_with fail
    go_ret
    exact ⟨retB BB.out.symm, NEW.out, cagrown_two _ _ _ _ _ _⟩
  · have BB := Lib.hid (M.pushB_no f c p (by rw [hn]; exact hb))
    have FF := Lib.hid (M.pushF_no f c p BB.out)
    have HQ := Lib.hid hq
    have HN := Lib.hid hn
    rw [BB.out, FF.out]
    by_cases hc : 0 ≤ c ∧ c < 7
    · have hp : 1 ≤ q := by
        have := M.pg_pos c.toNat (by omega)
        rw [show ((c.toNat : Nat) : Int) = c by omega, hq] at this
        exact this
      have hq0 : (q == 0) = false := by simp; omega
      by_cases hp0 : p < 0
      · clear hq hn h4 hb hc hp
        go_enter Try.func11, Try.ntmps11
        go_wp2_with fail
        refine (cpages_at c q rfl HQ.out _).mono ?_
        rintro e w' ⟨rfl, rfl⟩
        go_wp2_with fail
        refine (calen_any _ g f H.out c).mono ?_
        rintro e w' ⟨rfl, rfl⟩
        rw [HN.out]
        go_wp2_with fail
        go_ret
        exact ⟨rfl, H.out, cagrown_refl _ _⟩
      · have e4 : n = 4 := by omega
        subst e4
        clear hq hn h4 hb hc hp
        go_enter Try.func11, Try.ntmps11
        go_wp2_with fail
        refine (cpages_at c q rfl HQ.out _).mono ?_
        rintro e w' ⟨rfl, rfl⟩
        go_wp2_with fail
        refine (calen_any _ g f H.out c).mono ?_
        rintro e w' ⟨rfl, rfl⟩
        rw [HN.out]
        go_wp2_with fail
        go_ret
        exact ⟨rfl, H.out, cagrown_refl _ _⟩
    · have e0 : q = 0 := by rw [← hq]; exact M.pg_out c (by omega)
      subst e0
      clear hq hn h4 hb hc
      go_enter Try.func11, Try.ntmps11
      go_wp2_with fail
      refine (cpages_at c 0 rfl HQ.out _).mono ?_
      rintro e w' ⟨rfl, rfl⟩
      go_wp2_with fail
      refine (calen_any _ g f H.out c).mono ?_
      rintro e w' ⟨rfl, rfl⟩
      rw [HN.out]
      go_wp2_with fail
      go_ret
      exact ⟨rfl, H.out, cagrown_refl _ _⟩
theorem capush_nil (w : World) (c p : Int) :
    Calls Try.prog 11 #[.pointer none, .int .i64 c, .int .i64 p] w fun e w' => e = .returned (.bool false) ∧ w = w' := by
  go_enter Try.func11, Try.ntmps11
  go_wp2_with fail
  refine (cpages_at c _ rfl rfl _).mono ?_
  rintro e w' ⟨rfl, rfl⟩
  go_wp2_with fail
  refine (calen_nil _ c).mono ?_
  rintro e w' ⟨rfl, rfl⟩
  go_wp2_with fail
  go_ret
  exact ⟨rfl, rfl⟩

set_option maxHeartbeats 1000000 in
theorem capop_any (w : World) (g : Nat) (f : M.Ky) (h : IsC w g f) (c : Int) :
    Calls Try.prog 13 #[.pointer (some ⟨g, 0, none⟩), .int .i64 c] w fun e w' => e = .returned (.tuple #[.int .i64 (M.popV f c), .bool (M.popB f c)]) ∧ IsC w' g (M.popF f c) ∧ w.grownBy w' (some g) := by
  have H := Lib.hid h
  obtain ⟨n, hn⟩ : ∃ n, (f c).length = n := ⟨_, rfl⟩
  rcases Nat.eq_zero_or_pos n with h0 | h0
  · subst h0
    have hb : M.popB f c = false := by unfold M.popB; rw [hn]; simp
    rw [M.popV_no f c hb, M.popF_no f c hb, hb]
    have HN := Lib.hid hn
    clear h hn hb
    go_enter Try.func13, Try.ntmps13
    go_wp2_with fail
    refine (caof_any _ g f H.out c).mono ?_
    rintro e w' ⟨rfl, rfl⟩
    rw [HN.out]
    go_wp2_with fail
    go_ret2
    exact ⟨rfl, H.out, cagrown_refl _ _⟩
  · obtain ⟨m, rfl⟩ : ∃ m, n = m + 1 := ⟨n - 1, by omega⟩
    have hin : 0 ≤ c ∧ c < 7 := by
      apply Decidable.byContradiction
      intro hc
      rw [h.good.out c (by omega)] at hn
      simp at hn
    obtain ⟨k, rfl⟩ : ∃ k : Nat, c = k := ⟨c.toNat, by omega⟩
    have hk : k < 7 := by omega
    have h4 := h.good.four k
    have hm : m < 4 := by omega
    have hb : M.popB f k = true := by unfold M.popB; rw [hn]; simp
    have hv : M.popV f k = (f k).getD m 0 := by unfold M.popV; rw [hn]; rfl
    have c0 := h.c0 k m hk hm
    have c1 := h.c1 k m hk hm
    rw [← hv] at c0
    obtain ⟨q, hq⟩ : ∃ q, (if m < (f k).length then M.pg k else 0) = q := ⟨_, rfl⟩
    rw [hq] at c1
    obtain ⟨v, hv'⟩ : ∃ v, M.popV f k = v := ⟨_, rfl⟩
    rw [hv'] at c0
    rw [hv', hb]
    have NEW := Lib.hid (h.pop k m hk hn)
    have f0 := h.fr (k * 8 + m * 2)
    have f1 := h.fr (k * 8 + m * 2 + 1)
    have HN := Lib.hid hn
    clear h hn hb hv hv' hq h4 hin h0
    go_enter Try.func13, Try.ntmps13
    go_wp2_with fail
    refine (caof_in _ g f H.out k hk).mono ?_
    rintro e w' ⟨rfl, rfl⟩
    rw [HN.out]
    go_wp2_with fail
    go_ret2
    exact ⟨rfl, NEW.out, cagrown_two _ _ _ _ _ _⟩
theorem capop_nil (w : World) (c : Int) :
    Calls Try.prog 13 #[.pointer none, .int .i64 c] w fun e w' => e = .returned (.tuple #[.int .i64 0, .bool false]) ∧ w = w' := by
  go_enter Try.func13, Try.ntmps13
  go_wp2_with fail
  refine (caof_out _ none c (.inl rfl)).mono ?_
  rintro e w' ⟨rfl, rfl⟩
  go_wp2_with fail
  go_ret2
  exact ⟨rfl, rfl⟩

set_option maxHeartbeats 1000000 in
theorem capages_any (w : World) (g : Nat) (f : M.Ky) (h : IsC w g f) :
    Calls Try.prog 17 #[.pointer (some ⟨g, 0, none⟩)] w fun e w' => e = .returned (.int .i64 (M.sum f)) ∧ w = w' := by
  have H := Lib.hid h
  clear h
  go_enter Try.func17, Try.ntmps17
  go_wp2_with fail
  go_loop [3, 4, 5] (fun t _ i => ∃ k : Nat, k ≤ 7 ∧ i = .int .i64 (k : Int) ∧ t = .int .i64 (M.sumTo f k)) (fun _ _ i => 7 - (intOf i).toNat)
  case atStart => exact ⟨0, by omega, rfl, rfl⟩
  case round =>
    obtain ⟨k, hk, rfl, rfl⟩ := hrel
    by_cases hlt : k < 7
    · have b1 := M.sumTo_between H.out.good k hk
      have b2 := M.len_mul H.out.good k
      have es : M.sumTo f (k + 1) = M.sumTo f k + ((f k).length : Int) * M.pg k := rfl
      obtain ⟨T, hT⟩ : ∃ T, M.sumTo f k = T := ⟨_, rfl⟩
      obtain ⟨n, hn⟩ : ∃ n : Int, ((f k).length : Int) = n := ⟨_, rfl⟩
      obtain ⟨q, hq⟩ : ∃ q, M.pg k = q := ⟨_, rfl⟩
      rw [hT] at b1 es
      rw [hn, hq] at b2 es
      rw [hT]
      obtain ⟨x, hx⟩ : ∃ x, n * q = x := ⟨_, rfl⟩
      rw [hx] at b2 es
      have s1 : wrap64 (n * q) = x := by rw [hx]; unfold wrap64; omega
      have s2 : wrap64 (T + x) = T + x := by unfold wrap64; omega
      have ES := Lib.hid es
      have HQ := Lib.hid hq
      have HN := Lib.hid hn
      clear b1 b2 es hT hn hq hx
      go_wp2_with fail
      refine (calen_any _ g f H.out k).mono ?_
      rintro e w' ⟨rfl, rfl⟩
      rw [HN.out]
      go_wp2_with fail
      refine (cpages_at (k : Int) q rfl HQ.out _).mono ?_
      rintro e w' ⟨rfl, rfl⟩
      go_wp2_with fail
      go_round
      case rel => exact ⟨k + 1, by omega, by go_num, by rw [ES.out, s2]⟩
      case measure => simp [intOf]; omega
    · have e : k = 7 := by omega
      subst e
      go_wp2_with fail
      go_ret
      exact ⟨rfl, rfl⟩
set_option maxHeartbeats 1000000 in
theorem capages_nil (w : World) :
    Calls Try.prog 17 #[.pointer none] w fun e w' => e = .returned (.int .i64 0) ∧ w = w' := by
  go_enter Try.func17, Try.ntmps17
  go_wp2_with fail
  go_loop [3, 4, 5] (fun t _ i => ∃ k : Nat, k ≤ 7 ∧ i = .int .i64 (k : Int) ∧ t = .int .i64 0) (fun _ _ i => 7 - (intOf i).toNat)
  case atStart => exact ⟨0, by omega, rfl, rfl⟩
  case round =>
    obtain ⟨k, hk, rfl, rfl⟩ := hrel
    by_cases hlt : k < 7
    · obtain ⟨q, hq⟩ : ∃ q, M.pg k = q := ⟨_, rfl⟩
      have HQ := Lib.hid hq
      clear hq
      go_wp2_with fail
      refine (calen_nil _ k).mono ?_
      rintro e w' ⟨rfl, rfl⟩
      go_wp2_with fail
      refine (cpages_at (k : Int) q rfl HQ.out _).mono ?_
      rintro e w' ⟨rfl, rfl⟩
      go_wp2_with fail
      go_round
      case rel => exact ⟨k + 1, by omega, by go_num, by go_num⟩
      case measure => simp [intOf]; omega
    · go_wp2_with fail
      go_ret
      exact ⟨rfl, rfl⟩
theorem caclear_nil (w : World) : Calls Try.prog 14 #[.pointer none] w fun e w' => e = .returned (.tuple #[]) ∧ w = w' := by
  go_enter Try.func14, Try.ntmps14
  go_wp2_with fail
  go_end0
  exact ⟨rfl, rfl⟩
theorem caclear_any (w : World) (g : Nat) (f : M.Ky) (h : IsC w g f) : Calls Try.prog 14 #[.pointer (some ⟨g, 0, none⟩)] w fun e w' => e = .returned (.tuple #[]) ∧ IsC w' g M.empty ∧ w.grownBy w' (some g) := by
  have H := Lib.hid h
  have one : (List.replicate 56 (Value.int .i64 0)).toArray.all (·.oneCell') = true := by kernel_rfl
  have ONE := Lib.hid one
  clear h one
  go_enter Try.func14, Try.ntmps14
  go_wp2_with (refine wpList_store_row rfl 31 (Operand.tmp 6) (Operand.tmp 5) rfl g (List.replicate 56 (Value.int .i64 0)).toArray rfl rfl _ _ H.out.blk (by kernel_rfl) (by simp [cacl_length]) ONE.out ?_)
  go_end0
  exact ⟨rfl, H.out.clear, ⟨rfl, rfl, rfl, by simp, fun i hi hne => setRow_other w g i _ (fun e => hne (by rw [e]))⟩⟩
end Go.Proofs.Yteiiiapjloincaa
