/-
  Plain mathematics of a cursor that goes through a chunk: no program in sight.
-/
import Derived.Test.YtmmcdnoedilefaaM1More
namespace Go.Proofs.Ytmmcdnoedilefaa.M

/-- Whether some bytes lie ahead of the end. -/
def bhB (x s e : Nat) : Bool := s != 0 && inB x s e
def bhA (x s e : Nat) : Nat := if bhB x s e = true then x + s else 0
def bhE (x s e : Nat) : Nat := if bhB x s e = true then e else 0
/-- Whether some bytes fit behind a cursor. -/
def fitB (t e s a : Nat) : Bool := upB t a && bhB (upV t a) s e
def fitS (t e s a : Nat) : Nat := if fitB t e s a = true then upV t a else 0
def fitA (t e s a : Nat) : Nat := if fitB t e s a = true then upV t a + s else 0
def fitE (t e s a : Nat) : Nat := if fitB t e s a = true then e else 0
def fitP (t e s a : Nat) : Nat := if fitB t e s a = true then upV t a - t else 0
/-- Whether a chunk may be. -/
def ofB (p n : Int) : Bool := decide (0 ≤ p) && decide (1 ≤ n) && decide (p + n ≤ 1048576)
def ofA (p n : Int) : Int := if ofB p n = true then p * 4096 + 32 else 0
def ofE (p n : Int) : Int := if ofB p n = true then (p + n) * 4096 else 0
def left (t e : Nat) : Nat := e - t

theorem bhB_iff (x s e : Nat) (he : e < 18446744073709551616) : bhB x s e = true ↔ 1 ≤ s ∧ x + s ≤ e := by
  unfold bhB inB addB addV
  simp only [Bool.and_eq_true, bne_iff_ne, decide_eq_true_eq]
  constructor
  · rintro ⟨h1, h2, h3⟩; rw [if_pos h2] at h3; omega
  · rintro ⟨h1, h2⟩; refine ⟨by omega, by omega, ?_⟩; rw [if_pos (by omega)]; exact h2
theorem bh_yes (x s e : Nat) (h : bhB x s e = true) : bhA x s e = x + s ∧ bhE x s e = e := ⟨if_pos h, if_pos h⟩
theorem bh_no (x s e : Nat) (h : bhB x s e = false) : bhA x s e = 0 ∧ bhE x s e = 0 := ⟨if_neg (by simp [h]), if_neg (by simp [h])⟩
theorem up_ge (t a : Nat) (h : upB t a = true) : t ≤ upV t a := by
  have ha : powB a = true := by unfold upB at h; simp at h; exact h.1
  exact (up_true t a ha h).2.1
theorem fit_yes (t e s a : Nat) (h : fitB t e s a = true) : fitS t e s a = upV t a ∧ fitA t e s a = upV t a + s ∧ fitE t e s a = e ∧ fitP t e s a = upV t a - t := ⟨if_pos h, if_pos h, if_pos h, if_pos h⟩
theorem fit_no (t e s a : Nat) (h : fitB t e s a = false) : fitS t e s a = 0 ∧ fitA t e s a = 0 ∧ fitE t e s a = 0 ∧ fitP t e s a = 0 := ⟨if_neg (by simp [h]), if_neg (by simp [h]), if_neg (by simp [h]), if_neg (by simp [h])⟩
theorem fitB_iff (t e s a : Nat) (he : e < 18446744073709551616) : fitB t e s a = true ↔ upB t a = true ∧ 1 ≤ s ∧ upV t a + s ≤ e := by
  unfold fitB
  rw [Bool.and_eq_true, bhB_iff _ _ _ he]
/-- What fits, all of it. -/
theorem fit_all (t e s a : Nat) (he : e < 18446744073709551616) (h : fitB t e s a = true) : powB a = true ∧ upV t a % a = 0 ∧ t ≤ upV t a ∧ upV t a < t + a ∧ 1 ≤ s ∧ upV t a + s ≤ e := by
  obtain ⟨h1, h2, h3⟩ := (fitB_iff t e s a he).1 h
  have ha : powB a = true := by unfold upB at h1; simp at h1; exact h1.1
  obtain ⟨u1, u2, u3⟩ := up_true t a ha h1
  exact ⟨ha, u1, u2, u3, h2, h3⟩
end Go.Proofs.Ytmmcdnoedilefaa.M
