/-
  What the laws of layer 11 say, as plain mathematics: no program in sight.
-/
import Derived.Test.YtmmcdnoedilefaaM11
namespace Go.Proofs.Ytmmcdnoedilefaa.M

theorem up_div (t a : Nat) (ha : powB a = true) (h : upB t a = true) : (t + a - 1) / a * a = upV t a := by
  obtain ⟨h1, h2, h3⟩ := up_true t a ha h
  have hp := powB_pos a ha
  generalize upV t a = x at *
  have e1 := Nat.div_add_mod x a
  have e2 := Nat.div_add_mod (t + a - 1) a
  have e3 := Nat.mod_lt (t + a - 1) hp
  rw [h1] at e1
  generalize (t + a - 1) / a = q at *
  generalize x / a = c at *
  have hc : c ≤ q := by
    rcases Nat.lt_or_ge q c with h | h
    · exfalso
      have : a * (q + 1) ≤ a * c := Nat.mul_le_mul_left a h
      rw [Nat.mul_add] at this
      omega
    · exact h
  have hq : q ≤ c := by
    rcases Nat.lt_or_ge c q with h | h
    · exfalso
      have : a * (c + 1) ≤ a * q := Nat.mul_le_mul_left a h
      rw [Nat.mul_add] at this
      omega
    · exact h
  obtain rfl : c = q := by omega
  rw [Nat.mul_comm]; omega
/-- A start within numbers of 32 digits, and an alignment of a page at most. -/
theorem last_up (t a : Nat) (ht : t < 4294967296) (ha : powB a = true) (hl : a ≤ 4096) : upB t a = true ∧ (t + a - 1) / a * a = upV t a ∧ t ≤ upV t a ∧ upV t a < t + a := by
  have h := up_small t a ha (by omega)
  exact ⟨h, up_div t a ha h, (up_true t a ha h).2⟩
theorem fit_false (t e s a : Nat) (he : e < 18446744073709551616) (h : e < upV t a + s) : fitB t e s a = false := by
  cases hb : fitB t e s a with
  | false => rfl
  | true => have := (fitB_iff t e s a he).1 hb; omega
theorem fit_true (t e s a : Nat) (he : e < 18446744073709551616) (hu : upB t a = true) (hs : 1 ≤ s) (h : upV t a + s ≤ e) : fitB t e s a = true := (fitB_iff t e s a he).2 ⟨hu, hs, h⟩
theorem powB_one : powB 1 = true := powB_two_pow 0
theorem up_one (t : Nat) : upV t 1 = t ∧ upB t 1 = true := up_mult t 1 powB_one (Nat.mod_one t)
/-- Bytes without alignment that fit .. -/
theorem one_yes (t e s : Nat) (he : e < 18446744073709551616) (hs : 1 ≤ s) (h : t + s ≤ e) : fitB t e s 1 = true ∧ fitS t e s 1 = t ∧ fitA t e s 1 = t + s ∧ fitE t e s 1 = e ∧ fitP t e s 1 = 0 := by
  have u := up_one t
  have b := fit_true t e s 1 he u.2 hs (by rw [u.1]; exact h)
  obtain ⟨g1, g2, g3, g4⟩ := fit_yes _ _ _ _ b
  rw [u.1] at g1 g2 g4
  exact ⟨b, g1, g2, g3, by omega⟩
/-- .. and such as don't. -/
theorem one_no (t e s : Nat) (he : e < 18446744073709551616) (h : e < t + s) : fitB t e s 1 = false ∧ fitS t e s 1 = 0 ∧ fitA t e s 1 = 0 ∧ fitE t e s 1 = 0 ∧ fitP t e s 1 = 0 := by
  have u := up_one t
  have b := fit_false t e s 1 he (by rw [u.1]; exact h)
  exact ⟨b, fit_no _ _ _ _ b⟩
/-- What fits by a great alignment fits by a lesser one, at no greater place. -/
theorem twice (t e s a c : Nat) (he : e < 18446744073709551616) (ha : powB a = true) (hc : powB c = true) (h : a ≤ c) (ht : t + c ≤ 18446744073709551616) (hf : fitB t e s c = true) : fitB t e s a = true ∧ fitS t e s a ≤ fitS t e s c := by
  obtain ⟨h1, h2, h3⟩ := (fitB_iff t e s c he).1 hf
  have h4 := up_small t a ha (by omega)
  have h5 := up_mono t a c ha hc h h4 h1
  have h6 := fit_true t e s a he h4 h2 (by omega)
  refine ⟨h6, ?_⟩
  rw [(fit_yes _ _ _ _ h6).1, (fit_yes _ _ _ _ hf).1]
  exact h5
/-- What doesn't fit needs more than is left. -/
theorem apart_no (t e s a : Nat) (he : e < 18446744073709551616) (ha : powB a = true) (hs : 1 ≤ s) (ht : t + a ≤ 18446744073709551616) (h : fitB t e s a = false) : e < t + s + a := by
  rcases Nat.lt_or_ge e (t + s + a) with h1 | h1
  · exact h1
  · have u := up_small t a ha ht
    have v := (up_true t a ha u).2.2
    rw [fit_true t e s a he u hs (by omega)] at h
    cases h
theorem apart_yes (t e s a : Nat) (he : e < 18446744073709551616) (h : fitB t e s a = true) : ∃ x y p : Nat, fitS t e s a = x ∧ fitA t e s a = y ∧ fitE t e s a = e ∧ fitP t e s a = p ∧ x % a = 0 ∧ p < a ∧ x = t + p ∧ y = x + s ∧ y ≤ e := by
  obtain ⟨h1, h2, h3, h4, h5, h6⟩ := fit_all t e s a he h
  obtain ⟨g1, g2, g3, g4⟩ := fit_yes t e s a h
  exact ⟨_, _, _, g1, g2, g3, g4, h2, by omega, by omega, rfl, h6⟩
end Go.Proofs.Ytmmcdnoedilefaa.M
