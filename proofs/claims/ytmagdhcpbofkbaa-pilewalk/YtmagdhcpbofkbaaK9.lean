/-
  More plain mathematics of layer 1: what is aligned, how many digits, how many pages. No program in sight.
-/
import Derived.Test.YtmagdhcpbofkbaaK0
import Derived.Test.YtmagdhcpbofkbaaK1
namespace Go.Proofs.Ytmagdhcpbofkbaa.M

theorem up_false (n a : Nat) (ha : powB a = true) (h : upB n a = false) : upV n a = 0 ∧ 18446744073709551616 < n + a := by
  have hp := powB_pos a ha
  have hl := Nat.mod_lt n hp
  unfold upB at h
  rw [ha] at h
  simp only [Bool.true_and, Bool.or_eq_false_iff, beq_eq_false_iff_ne] at h
  obtain ⟨h1, h2⟩ := h
  unfold addB at h2
  have h2' : ¬ n + (a - n % a) < 18446744073709551616 := of_decide_eq_false h2
  refine ⟨?_, by omega⟩
  unfold upV
  rw [if_pos ha, if_neg h1]
  unfold addV
  rw [if_neg h2']

theorem up_true (n a : Nat) (ha : powB a = true) (h : upB n a = true) : upV n a % a = 0 ∧ n ≤ upV n a ∧ upV n a < n + a := by
  have hp := powB_pos a ha
  have hl := Nat.mod_lt n hp
  unfold upB at h
  rw [ha] at h
  simp only [Bool.true_and, Bool.or_eq_true, beq_iff_eq] at h
  unfold upV
  rw [if_pos ha]
  by_cases h1 : n % a = 0
  · rw [if_pos h1]; exact ⟨h1, by omega, by omega⟩
  · rw [if_neg h1]
    rcases h with h | h
    · exact absurd h h1
    · unfold addB at h
      have h2 := of_decide_eq_true h
      unfold addV
      rw [if_pos h2]
      refine ⟨?_, by omega, by omega⟩
      have e := Nat.div_add_mod n a
      have : n + (a - n % a) = a * (n / a + 1) := by rw [Nat.mul_add]; omega
      rw [this]; exact Nat.mul_mod_right _ _

theorem up_mult (x a : Nat) (ha : powB a = true) (h : x % a = 0) : upV x a = x ∧ upB x a = true := by
  unfold upV upB
  rw [if_pos ha, if_pos h, ha, h]
  exact ⟨rfl, rfl⟩

theorem pow_dvd (a b : Nat) (ha : powB a = true) (hb : powB b = true) (h : a ≤ b) : a ∣ b := by
  rw [powB_eq a ha, powB_eq b hb] at *
  generalize size a - 1 = i at *
  generalize size b - 1 = j at *
  have : i ≤ j := (Nat.pow_le_pow_iff_right (by decide)).1 h
  exact Nat.pow_dvd_pow 2 this

theorem least_mult (n a x y : Nat) (hx : x % a = 0) (hy : y % a = 0) (h1 : x < n + a) (h2 : n ≤ y) : x ≤ y := by
  have e1 := Nat.div_add_mod x a
  have e2 := Nat.div_add_mod y a
  by_cases h : x ≤ y
  · exact h
  · exfalso
    have hlt : a * (y / a) < a * (x / a) := by omega
    have h3 : y / a < x / a := Nat.lt_of_mul_lt_mul_left hlt
    have h4 : a * (y / a + 1) ≤ a * (x / a) := Nat.mul_le_mul_left a h3
    rw [Nat.mul_add] at h4
    omega

theorem up_mono (n a b : Nat) (ha : powB a = true) (hb : powB b = true) (h : a ≤ b) (h1 : upB n a = true) (h2 : upB n b = true) : upV n a ≤ upV n b := by
  obtain ⟨x1, x2, x3⟩ := up_true n a ha h1
  obtain ⟨y1, y2, y3⟩ := up_true n b hb h2
  refine least_mult n a _ _ x1 ?_ x3 y2
  obtain ⟨c, hc⟩ := pow_dvd a b ha hb h
  have := Nat.dvd_of_mod_eq_zero y1
  exact Nat.mod_eq_zero_of_dvd (Nat.dvd_trans ⟨c, hc⟩ this)

/-- What lies between two multiples goes up to the second one. -/
theorem up_step (x d a : Nat) (ha : powB a = true) (hx : x % a = 0) (h1 : 1 ≤ d) (h2 : d ≤ a) (hs : x + a < 18446744073709551616) : upV (x + d) a = x + a ∧ upB (x + d) a = true := by
  have hp := powB_pos a ha
  by_cases e : d = a
  · subst e
    exact up_mult (x + d) d ha (by rw [Nat.add_mod_right]; exact hx)
  · have hm : (x + d) % a = d := by rw [Nat.add_mod, hx, Nat.zero_add, Nat.mod_mod, Nat.mod_eq_of_lt (by omega)]
    unfold upV upB addB addV
    rw [if_pos ha, hm, ha, if_neg (by omega), if_pos (by omega)]
    refine ⟨by omega, ?_⟩
    rw [decide_eq_true (by omega)]
    simp

theorem up_small (n a : Nat) (ha : powB a = true) (hs : n + a ≤ 18446744073709551616) : upB n a = true := by
  by_cases h : upB n a = true
  · exact h
  · have := (up_false n a ha (by simpa using h)).2
    omega

theorem shift_one (n : Nat) (h : n ≠ 0) : n / 2 ^ (size n - 1) = 1 := by
  have h1 := (lt_pow_iff n (size n)).2 (Nat.le_refl _)
  have s := size_ge_one n h
  have h2 : ¬ n < 2 ^ (size n - 1) := by rw [lt_pow_iff]; omega
  have e : 2 ^ size n = 2 ^ (size n - 1) * 2 := by rw [← Nat.pow_succ]; congr 1; omega
  have hp := Nat.two_pow_pos (size n - 1)
  apply Nat.div_eq_of_lt_le <;> omega

theorem ceil_bounds (n : Nat) (_h : n ≠ 0) : size n - 1 ≤ size (n - 1) ∧ size (n - 1) ≤ size n := by
  constructor
  · have h1 := (lt_pow_iff (n - 1) (size (n - 1))).2 (Nat.le_refl _)
    have hp := Nat.two_pow_pos (size (n - 1))
    have : n < 2 ^ (size (n - 1) + 1) := by rw [Nat.pow_succ]; omega
    have := (lt_pow_iff _ _).1 this
    omega
  · have h1 := (lt_pow_iff n (size n)).2 (Nat.le_refl _)
    exact (lt_pow_iff _ _).1 (by omega)

theorem ceil_pow (n : Nat) (h : n ≠ 0) : (size (n - 1) = size n - 1) ↔ powB n = true := by
  have s := size_ge_one n h
  have b := ceil_bounds n h
  have h2 : ¬ n < 2 ^ (size n - 1) := by rw [lt_pow_iff]; omega
  constructor
  · intro e
    have h3 : n - 1 < 2 ^ (size n - 1) := by rw [lt_pow_iff]; omega
    have : n = 2 ^ (size n - 1) := by omega
    rw [this]; exact powB_two_pow _
  · intro hp
    have e := powB_eq n hp
    have h3 : n - 1 < 2 ^ (size n - 1) := by omega
    have := (lt_pow_iff _ _).1 h3
    omega

theorem inB_self (n : Nat) (h : n < 18446744073709551616) : inB n 0 n = true := by
  unfold inB addB addV; simp [h]
theorem inB_zero (n : Nat) (h : n < 18446744073709551616) : inB 0 n n = true := by
  unfold inB addB addV; simp [h]
theorem inB_above (n : Nat) : inB (n + 1) 0 n = false := by
  unfold inB addB addV
  by_cases h : n + 1 < 18446744073709551616
  · simp [h]
  · simp [h]
theorem inB_more (a b z m : Nat) (h : inB a b z = true) (hz : z ≤ m) : inB a b m = true := by
  unfold inB at *
  simp only [Bool.and_eq_true, decide_eq_true_eq] at *
  exact ⟨h.1, by omega⟩
theorem addB_comm (a b : Nat) : addB a b = addB b a := by unfold addB; rw [Nat.add_comm]
theorem addV_comm (a b : Nat) : addV a b = addV b a := by unfold addV; rw [Nat.add_comm]
theorem addV_eq (a b : Nat) (h : addB a b = true) : addV a b = a + b := by
  unfold addB at h; unfold addV; rw [if_pos (of_decide_eq_true h)]
theorem addB_lt (a b : Nat) (h : addB a b = true) : a + b < 18446744073709551616 := of_decide_eq_true h
theorem pgs_add (a b : Nat) : pgs a + pgs b = pgs (a + b) ∨ pgs a + pgs b = pgs (a + b) + 1 := by
  unfold pgs; split <;> split <;> split <;> omega
theorem pgs_zero (n : Nat) : pgs n = 0 ↔ n = 0 := by unfold pgs; split <;> omega
theorem pgs_bounds (n : Nat) (h : n ≠ 0) : (pgs n - 1) * 4096 < n ∧ n ≤ pgs n * 4096 := by unfold pgs; split <;> omega
end Go.Proofs.Ytmagdhcpbofkbaa.M
/-
  Plain mathematics of classes of chunks: no program in sight.
-/
namespace Go.Proofs.Ytmagdhcpbofkbaa.M

/-- How many pages a class's chunks have. -/
def pg (c : Int) : Int := if c = 0 then 1 else if c = 1 then 2 else if c = 2 then 4 else if c = 3 then 8 else if c = 4 then 16 else if c = 5 then 32 else if c = 6 then 64 else 0
/-- The least class that has so many pages. -/
def cls (p : Int) : Int := if p < 1 then -1 else if p ≤ 1 then 0 else if p ≤ 2 then 1 else if p ≤ 4 then 2 else if p ≤ 8 then 3 else if p ≤ 16 then 4 else if p ≤ 32 then 5 else if p ≤ 64 then 6 else -1
/-- Where bytes begin behind a header. -/
def fst (a : Nat) : Nat := upV 32 a
def needB (s a : Nat) : Bool := s != 0 && decide (a ≤ 4096) && powB a && addB (fst a) s
def needV (s a : Nat) : Nat := if needB s a = true then pgs (fst a + s) else 0
def chunkB (s a : Nat) : Bool := needB s a && decide (needV s a ≤ 1048576)
def chunkL (s a : Nat) : Bool := chunkB s a && decide (64 < needV s a)
def chunkV (s a : Nat) : Int := if chunkB s a = true then (if 64 < needV s a then (needV s a : Int) else pg (cls (needV s a))) else 0

theorem pg_out (c : Int) (h : c < 0 ∨ 7 ≤ c) : pg c = 0 := by unfold pg; repeat' split <;> omega
theorem cls_eq (p : Int) (k : Nat) (hk : k < 7) (h1 : 1 ≤ p) (h2 : p ≤ pg k) (h3 : k = 0 ∨ pg ((k : Int) - 1) < p) : cls p = k := by
  rcases (by omega : k = 0 ∨ k = 1 ∨ k = 2 ∨ k = 3 ∨ k = 4 ∨ k = 5 ∨ k = 6) with rfl | rfl | rfl | rfl | rfl | rfl | rfl <;> simp [pg] at h2 h3 <;> unfold cls <;> repeat' split <;> omega
theorem cls_none (p : Int) (h : 64 < p) : cls p = -1 := by unfold cls; repeat' split <;> omega
theorem cls_low (p : Int) (h : p < 1) : cls p = -1 := by unfold cls; rw [if_pos h]
theorem pg_le (c : Int) : 0 ≤ pg c ∧ pg c ≤ 64 := by unfold pg; repeat' split <;> omega
theorem cls_range (p : Int) : -1 ≤ cls p ∧ cls p < 7 := by unfold cls; repeat' split <;> omega
theorem cls_some (p : Int) (h1 : 1 ≤ p) (h2 : p ≤ 64) : 0 ≤ cls p ∧ cls p < 7 ∧ p ≤ pg (cls p) ∧ pg (cls p) < 2 * p ∧ (cls p = 0 ∨ pg (cls p - 1) < p) ∧ cls (pg (cls p)) = cls p := by
  rcases (by omega : p = 1 ∨ p = 2 ∨ (2 < p ∧ p ≤ 4) ∨ (4 < p ∧ p ≤ 8) ∨ (8 < p ∧ p ≤ 16) ∨ (16 < p ∧ p ≤ 32) ∨ (32 < p ∧ p ≤ 64)) with h | h | h | h | h | h | h
  · subst h; decide
  · subst h; decide
  · have e : cls p = 2 := by unfold cls; repeat' split <;> omega
    rw [e]; simp [pg]; exact ⟨by omega, by omega, by omega, by decide⟩
  · have e : cls p = 3 := by unfold cls; repeat' split <;> omega
    rw [e]; simp [pg]; exact ⟨by omega, by omega, by omega, by decide⟩
  · have e : cls p = 4 := by unfold cls; repeat' split <;> omega
    rw [e]; simp [pg]; exact ⟨by omega, by omega, by omega, by decide⟩
  · have e : cls p = 5 := by unfold cls; repeat' split <;> omega
    rw [e]; simp [pg]; exact ⟨by omega, by omega, by omega, by decide⟩
  · have e : cls p = 6 := by unfold cls; repeat' split <;> omega
    rw [e]; simp [pg]; exact ⟨by omega, by omega, by omega, by decide⟩
theorem pg_pow (c : Nat) (h : c < 7) : pg c = ((2 ^ c : Nat) : Int) := by
  rcases (by omega : c = 0 ∨ c = 1 ∨ c = 2 ∨ c = 3 ∨ c = 4 ∨ c = 5 ∨ c = 6) with rfl | rfl | rfl | rfl | rfl | rfl | rfl <;> rfl

theorem fst_up (a : Nat) (hp : powB a = true) (ha : a ≤ 4096) : upB 32 a = true ∧ fst a % a = 0 ∧ 32 ≤ fst a ∧ fst a < 32 + a := by
  have h := up_small 32 a hp (by omega)
  exact ⟨h, up_true 32 a hp h⟩
theorem fst_le (a : Nat) (hp : powB a = true) (ha : a ≤ 4096) : fst a ≤ 4096 := by
  obtain ⟨h1, h2, h3, h4⟩ := fst_up a hp ha
  refine least_mult 32 a (fst a) 4096 h2 ?_ h4 (by omega)
  exact Nat.mod_eq_zero_of_dvd (pow_dvd a 4096 hp (powB_two_pow 12) ha)
theorem fst_mono (a b : Nat) (hp : powB a = true) (hq : powB b = true) (hb : b ≤ 4096) (h : a ≤ b) : fst a ≤ fst b :=
  up_mono 32 a b hp hq h (up_small 32 a hp (by omega)) (up_small 32 b hq (by omega))
theorem needB_of (s a : Nat) (hp : powB a = true) (ha : a ≤ 4096) : needB s a = (s != 0 && addB (fst a) s) := by
  unfold needB; rw [hp, decide_eq_true ha]; simp
theorem pgs_mono (a b : Nat) (h : a ≤ b) : pgs a ≤ pgs b := by unfold pgs; split <;> split <;> omega
theorem needV_le (s a : Nat) : needV s a ≤ 4503599627370496 := by
  unfold needV
  split
  · next h =>
    unfold needB at h
    simp only [Bool.and_eq_true] at h
    exact pgs_le _ (addB_lt _ _ h.2)
  · omega
theorem chunkV_range (s a : Nat) : 0 ≤ chunkV s a ∧ chunkV s a ≤ 1048576 := by
  unfold chunkV
  split
  · next h =>
    unfold chunkB at h
    simp only [Bool.and_eq_true, decide_eq_true_eq] at h
    split
    · omega
    · have := pg_le (cls (needV s a)); omega
  · omega
theorem chunk_no (s a : Nat) (h : needB s a = false) : chunkV s a = 0 ∧ chunkL s a = false ∧ chunkB s a = false := by
  have e : chunkB s a = false := by unfold chunkB; rw [h]; rfl
  exact ⟨by unfold chunkV; rw [e]; rfl, by unfold chunkL; rw [e]; rfl, e⟩
theorem chunk_over (s a : Nat) (h : 1048576 < needV s a) : chunkV s a = 0 ∧ chunkL s a = false ∧ chunkB s a = false := by
  have e : chunkB s a = false := by unfold chunkB; rw [decide_eq_false (by omega)]; simp
  exact ⟨by unfold chunkV; rw [e]; rfl, by unfold chunkL; rw [e]; rfl, e⟩
theorem chunk_large (s a : Nat) (hb : needB s a = true) (h : needV s a ≤ 1048576) (h2 : 64 < needV s a) : chunkV s a = needV s a ∧ chunkL s a = true ∧ chunkB s a = true := by
  have e : chunkB s a = true := by unfold chunkB; rw [hb, decide_eq_true h]; rfl
  exact ⟨by unfold chunkV; rw [if_pos e, if_pos h2], by unfold chunkL; rw [e, decide_eq_true h2]; rfl, e⟩
theorem chunk_small (s a : Nat) (hb : needB s a = true) (h2 : ¬ 64 < needV s a) : chunkV s a = pg (cls (needV s a)) ∧ chunkL s a = false ∧ chunkB s a = true := by
  have e : chunkB s a = true := by unfold chunkB; rw [hb, decide_eq_true (by omega)]; rfl
  exact ⟨by unfold chunkV; rw [if_pos e, if_neg h2], by unfold chunkL; rw [e, decide_eq_false h2]; rfl, e⟩
theorem needV_pos (s a : Nat) (h : needB s a = true) : 1 ≤ needV s a := by
  unfold needV
  rw [if_pos h]
  have : pgs (fst a + s) ≠ 0 := by
    rw [Ne, pgs_zero]
    unfold needB at h
    simp at h
    omega
  omega
end Go.Proofs.Ytmagdhcpbofkbaa.M
/-
  Plain mathematics of chunks that are kept, by their classes: no program in sight.
-/
namespace Go.Proofs.Ytmagdhcpbofkbaa.M

/-- What is kept of each class, the first one that was pushed first. -/
abbrev Ky := Int → List Int
def empty : Ky := fun _ => []
def upd (f : Ky) (c : Int) (l : List Int) : Ky := fun d => if d = c then l else f d
structure Good (f : Ky) : Prop where
  out : ∀ c, (c < 0 ∨ 7 ≤ c) → f c = []
  four : ∀ c, (f c).length ≤ 4
def pushB (f : Ky) (c p : Int) : Bool := decide (0 ≤ c) && (decide (c < 7) && (decide (0 ≤ p) && decide ((f c).length < 4)))
def pushF (f : Ky) (c p : Int) : Ky := if pushB f c p = true then upd f c (f c ++ [p]) else f
def popB (f : Ky) (c : Int) : Bool := decide (0 < (f c).length)
def popV (f : Ky) (c : Int) : Int := (f c).getD ((f c).length - 1) 0
def popF (f : Ky) (c : Int) : Ky := upd f c (f c).dropLast
def sumTo (f : Ky) : Nat → Int
  | 0 => 0
  | k + 1 => sumTo f k + ((f k).length : Int) * pg k
def sum (f : Ky) : Int := sumTo f 7
def rows (f : Ky) (k : Nat) : List R := (f k).map fun p => ⟨p, pg k⟩
def allTo (f : Ky) : Nat → List R
  | 0 => []
  | k + 1 => allTo f k ++ rows f k
def all (f : Ky) : List R := allTo f 7

theorem upd_self (f : Ky) (c : Int) (l : List Int) : upd f c l c = l := by simp [upd]
theorem upd_ne (f : Ky) (c d : Int) (l : List Int) (h : d ≠ c) : upd f c l d = f d := by simp [upd, h]
theorem upd_same (f : Ky) (c : Int) : upd f c (f c) = f := by
  funext d
  unfold upd
  split
  · next h => rw [h]
  · rfl
theorem Good.empty : Good empty := ⟨fun _ _ => rfl, fun _ => by simp [M.empty]⟩
theorem pushB_iff (f : Ky) (c p : Int) : pushB f c p = true ↔ 0 ≤ c ∧ c < 7 ∧ 0 ≤ p ∧ (f c).length < 4 := by simp [pushB]
theorem pushB_no (f : Ky) (c p : Int) (h : ¬ (0 ≤ c ∧ c < 7 ∧ 0 ≤ p ∧ (f c).length < 4)) : pushB f c p = false := by
  rw [← Bool.not_eq_true, pushB_iff]; exact h
theorem pushF_no (f : Ky) (c p : Int) (h : pushB f c p = false) : pushF f c p = f := by unfold pushF; rw [h]; simp
theorem pushF_yes (f : Ky) (c p : Int) (h : pushB f c p = true) : pushF f c p = upd f c (f c ++ [p]) := by unfold pushF; rw [h]; simp
theorem Good.push {f : Ky} (h : Good f) (c p : Int) : Good (pushF f c p) := by
  unfold pushF
  split
  · next hb =>
    obtain ⟨h1, h2, h3, h4⟩ := (pushB_iff _ _ _).1 hb
    refine ⟨fun d hd => ?_, fun d => ?_⟩
    · rw [upd_ne _ _ _ _ (by omega)]; exact h.out d hd
    · by_cases e : d = c
      · subst e; rw [upd_self]; simp; omega
      · rw [upd_ne _ _ _ _ e]; exact h.four d
  · exact h
theorem Good.pop {f : Ky} (h : Good f) (c : Int) : Good (popF f c) := by
  refine ⟨fun d hd => ?_, fun d => ?_⟩
  · unfold popF upd
    split
    · next e => rw [h.out c (by omega)]; rfl
    · exact h.out d hd
  · by_cases e : d = c
    · subst e; unfold popF; rw [upd_self]; have := h.four d; simp; omega
    · unfold popF; rw [upd_ne _ _ _ _ e]; exact h.four d
theorem popF_no (f : Ky) (c : Int) (h : popB f c = false) : popF f c = f := by
  have : f c = [] := by
    unfold popB at h
    simp at h
    exact h
  unfold popF
  rw [this]
  show upd f c [] = f
  rw [← this, upd_same]
theorem popV_no (f : Ky) (c : Int) (h : popB f c = false) : popV f c = 0 := by
  have : f c = [] := by
    unfold popB at h
    simp at h
    exact h
  unfold popV
  rw [this]
  rfl
theorem sumTo_between {f : Ky} (h : Good f) : ∀ k, k ≤ 7 → 0 ≤ sumTo f k ∧ sumTo f k ≤ 256 * k
  | 0, _ => by simp [sumTo]
  | k + 1, hk => by
    have ih := sumTo_between h k (by omega)
    have h4 := h.four k
    have hp := pg_le k
    have h1 : 0 ≤ ((f k).length : Int) * pg k := Int.mul_nonneg (by omega) hp.1
    have h2 : ((f k).length : Int) * pg k ≤ 4 * 64 := Int.mul_le_mul (by omega) hp.2 hp.1 (by omega)
    simp only [sumTo]
    omega
theorem len_mul {f : Ky} (h : Good f) (k : Nat) : 0 ≤ ((f k).length : Int) * pg k ∧ ((f k).length : Int) * pg k ≤ 256 := by
  have h4 := h.four k
  have hp := pg_le k
  exact ⟨Int.mul_nonneg (by omega) hp.1, by have := Int.mul_le_mul (show ((f k).length : Int) ≤ 4 by omega) hp.2 hp.1 (by omega); omega⟩
theorem rows_length (f : Ky) (k : Nat) : (rows f k).length = (f k).length := by simp [rows]
theorem allTo_length {f : Ky} (h : Good f) : ∀ k, (allTo f k).length ≤ 4 * k
  | 0 => by simp [allTo]
  | k + 1 => by
    have ih := allTo_length h k
    have h4 := h.four k
    simp only [allTo, List.length_append, rows_length]
    omega
theorem pg_pos (k : Nat) (h : k < 7) : 1 ≤ pg k := by
  rcases (by omega : k = 0 ∨ k = 1 ∨ k = 2 ∨ k = 3 ∨ k = 4 ∨ k = 5 ∨ k = 6) with rfl | rfl | rfl | rfl | rfl | rfl | rfl <;> decide
theorem all_empty : all empty = [] := rfl
theorem sum_empty : sum empty = 0 := by decide
end Go.Proofs.Ytmagdhcpbofkbaa.M
/-
  What each function of package bits comes to.
-/
namespace Go.Proofs.Ytmagdhcpbofkbaa
open Go.ChangeShapes Go.WideShapes Go.ChangeAt Go.RowKit
set_option linter.unusedVariables false

theorem badd_any (a b : Nat) (ha : a < 18446744073709551616) (hb : b < 18446744073709551616) (w : World) :
    Calls Try.prog 92 #[.int .u64 a, .int .u64 b] w fun e w' => e = .returned (.tuple #[.int .u64 (M.addV a b : Nat), .bool (M.addB a b)]) ∧ w = w' := by
  have hw := wrapU ((a : Int) + b)
  have H := Lib.hid hw; clear hw
  go_enter Try.func92, Try.ntmps92
  go_wp2
  · rename_i h
    go_ret2
    have := H.out
    have hlt : ¬ (a + b < 18446744073709551616) := by omega
    exact ⟨ret2 (by simp [M.addV, hlt]) (by simp [M.addB]; omega), rfl⟩
  · rename_i h
    go_ret2
    have := H.out
    have hlt : a + b < 18446744073709551616 := by omega
    exact ⟨ret2 (by simp [M.addV, hlt]; omega) (by simp [M.addB]; omega), rfl⟩
theorem bin_any (a b z : Nat) (ha : a < 18446744073709551616) (hb : b < 18446744073709551616) (w : World) :
    Calls Try.prog 78 #[.int .u64 a, .int .u64 b, .int .u64 z] w fun e w' => e = .returned (.bool (M.inB a b z)) ∧ w = w' := by
  go_enter Try.func78, Try.ntmps78
  go_wp2_with (go_at_call 92; refine (badd_any _ _ ha hb _).mono ?_; rintro e w' ⟨rfl, rfl⟩)
  all_goals go_ret
  all_goals exact ⟨retB (by simp [M.inB, *]), rfl⟩
theorem add_at {i j : Int} (n a x : Nat) (p : Bool) (ei : i = n) (ej : j = a) (hn : n < 18446744073709551616) (ha : a < 18446744073709551616) (ex : M.addV n a = x) (ep : M.addB n a = p) (w : World) :
    Calls Try.prog 92 #[.int .u64 i, .int .u64 j] w fun e w' => e = .returned (.tuple #[.int .u64 x, .bool p]) ∧ w = w' := by
  subst ei ej ex ep; exact badd_any n a hn ha w
theorem in_at {i j l : Int} (n a z : Nat) (p : Bool) (ei : i = n) (ej : j = a) (el : l = z) (hn : n < 18446744073709551616) (ha : a < 18446744073709551616) (ep : M.inB n a z = p) (w : World) :
    Calls Try.prog 78 #[.int .u64 i, .int .u64 j, .int .u64 l] w fun e w' => e = .returned (.bool p) ∧ w = w' := by
  subst ei ej el ep; exact bin_any n a z hn ha w
end Go.Proofs.Ytmagdhcpbofkbaa
/-
  What each function of package classes comes to.
-/
namespace Go.Proofs.Ytmagdhcpbofkbaa
open Go.ChangeShapes Go.WideShapes Go.ChangeAt Go.RowKit
set_option linter.unusedVariables false

theorem ret3 {k : IntKind} {a b : Int} {p q r s : Bool} (h : a = b) (g : p = q) (f : r = s) : Ending.returned (.tuple #[.int k a, .bool p, .bool r]) = .returned (.tuple #[.int k b, .bool q, .bool s]) := by rw [h, g, f]
theorem cpages_any (c : Int) (w : World) :
    Calls Try.prog 33 #[.int .i64 c] w fun e w' => e = .returned (.int .i64 (M.pg c)) ∧ w = w' := by
  by_cases h1 : c < 0
  · go_enter Try.func33, Try.ntmps33
    go_wp2
    go_ret
    exact ⟨ret1 (M.pg_out c (.inl h1)).symm, rfl⟩
  · by_cases h2 : 7 ≤ c
    · go_enter Try.func33, Try.ntmps33
      go_wp2
      go_ret
      exact ⟨ret1 (M.pg_out c (.inr h2)).symm, rfl⟩
    · rcases (by omega : c = 0 ∨ c = 1 ∨ c = 2 ∨ c = 3 ∨ c = 4 ∨ c = 5 ∨ c = 6) with rfl | rfl | rfl | rfl | rfl | rfl | rfl
      all_goals clear h1 h2
      all_goals go_enter Try.func33, Try.ntmps33
      all_goals go_wp2
      all_goals go_ret
      all_goals exact ⟨ret1 (by decide), rfl⟩
theorem cpages_at {i : Int} (c g : Int) (ei : i = c) (eg : M.pg c = g) (w : World) :
    Calls Try.prog 33 #[.int .i64 i] w fun e w' => e = .returned (.int .i64 g) ∧ w = w' := by
  subst ei eg; exact cpages_any _ w
theorem class_any (p : Int) (w : World) :
    Calls Try.prog 32 #[.int .i64 p] w fun e w' => e = .returned (.int .i64 (M.cls p)) ∧ w = w' := by
  by_cases h1 : p < 1
  · go_enter Try.func32, Try.ntmps32
    go_wp2
    go_ret
    exact ⟨ret1 (M.cls_low p h1).symm, rfl⟩
  · go_enter Try.func32, Try.ntmps32
    go_wp2_with fail
    go_loop [3, 6] (fun _ i => ∃ k : Nat, k ≤ 7 ∧ (k = 0 ∨ M.pg ((k : Int) - 1) < p) ∧ i = .int .i64 k) (fun _ i => 7 - (intOf i).toNat)
    case atStart => exact ⟨0, by omega, .inl rfl, rfl⟩
    case round =>
      obtain ⟨k, hk, hb, rfl⟩ := hrel
      have HB := Lib.hid hb; clear hb
      by_cases hlt : k < 7
      · have G : Hid (M.pg (k : Int) = M.pg (k : Int)) := Lib.hid rfl
        revert G
        generalize hg : M.pg (k : Int) = g
        intro G
        have HG := Lib.hid hg; clear hg G
        by_cases hz : p ≤ g
        · go_wp2_with fail
          refine (cpages_at (k : Int) g rfl HG.out _).mono ?_
          rintro e w' ⟨rfl, rfl⟩
          go_wp2
          go_ret
          exact ⟨ret1 (M.cls_eq p k hlt (by omega) (by rw [HG.out]; exact hz) HB.out).symm, rfl⟩
        · go_wp2_with fail
          refine (cpages_at (k : Int) g rfl HG.out _).mono ?_
          rintro e w' ⟨rfl, rfl⟩
          go_wp2
          go_round
          case rel => exact ⟨k + 1, by omega, .inr (by rw [show (((k + 1 : Nat) : Int) - 1) = k by omega, HG.out]; omega), by go_num⟩
          case measure => simp [intOf]; omega
      · have e : k = 7 := by omega
        subst e
        go_wp2
        go_ret
        have := HB.out
        simp [M.pg] at this
        exact ⟨ret1 (M.cls_none p (by omega)).symm, rfl⟩
theorem class_at {i : Int} (p g : Int) (ei : i = p) (eg : M.cls p = g) (w : World) :
    Calls Try.prog 32 #[.int .i64 i] w fun e w' => e = .returned (.int .i64 g) ∧ w = w' := by
  subst ei eg; exact class_any _ w
end Go.Proofs.Ytmagdhcpbofkbaa
/-
  A Cache in memory: its cells; New, of.
-/
namespace Go.Proofs.Ytmagdhcpbofkbaa
open Go.ChangeShapes Go.WideShapes Go.ChangeAt Go.RowKit Go.Deep
set_option linter.unusedVariables false
set_option maxRecDepth 20000

/-- What stands at a place of a Cache. -/
def caval (f : M.Ky) (j : Nat) : Int := if j % 2 = 0 then (f (j / 8 : Nat)).getD (j % 8 / 2) 0 else if j % 8 / 2 < (f (j / 8 : Nat)).length then M.pg (j / 8 : Nat) else 0
def cacl (f : M.Ky) : List Value := (List.range 56).map fun j => .int .i64 (caval f j)
theorem cacl_length (f : M.Ky) : (cacl f).length = 56 := by simp [cacl]
theorem cacl_at (f : M.Ky) (j : Nat) (h : j < 56) : (cacl f)[j]? = some (.int .i64 (caval f j)) := by simp [cacl, List.getElem?_map, List.getElem?_range h]
theorem caval0 (f : M.Ky) (k n : Nat) (hn : n < 4) : caval f (k * 8 + n * 2) = (f k).getD n 0 := by
  unfold caval
  rw [if_pos (by omega), show (k * 8 + n * 2) / 8 = k by omega, show (k * 8 + n * 2) % 8 / 2 = n by omega]
theorem caval1 (f : M.Ky) (k n : Nat) (hn : n < 4) : caval f (k * 8 + n * 2 + 1) = if n < (f k).length then M.pg k else 0 := by
  unfold caval
  rw [if_neg (by omega), show (k * 8 + n * 2 + 1) / 8 = k by omega, show (k * 8 + n * 2 + 1) % 8 / 2 = n by omega]
/-- The cells of a Cache. -/
structure IsC (w : World) (g : Nat) (f : M.Ky) : Prop where
  good : M.Good f
  blk : w.heap[g]? = some (.cells (cacl f).toArray 82 (0, 0))
section
variable {w w' : World} {g : Nat} {f : M.Ky}
theorem IsC.cell (h : IsC w g f) (j : Nat) (hj : j < 56) : w.cell? ⟨g, j, none⟩ = some (.int .i64 (caval f j)) := by rw [cell_of_row w g j _ _ _ h.blk]; simpa using cacl_at f j hj
theorem IsC.c0 (h : IsC w g f) (k n : Nat) (hk : k < 7) (hn : n < 4) : w.cell? ⟨g, k * 8 + n * 2, none⟩ = some (.int .i64 ((f k).getD n 0)) := by rw [h.cell _ (by omega), caval0 f k n hn]
theorem IsC.c1 (h : IsC w g f) (k n : Nat) (hk : k < 7) (hn : n < 4) : w.cell? ⟨g, k * 8 + n * 2 + 1, none⟩ = some (.int .i64 (if n < (f k).length then M.pg k else 0)) := by rw [h.cell _ (by omega), caval1 f k n hn]
theorem IsC.fr (h : IsC w g f) (j : Nat) : w.frozen? ⟨g, j, none⟩ = false := by
  unfold World.frozen?
  rw [show w.heap[(⟨g, j, none⟩ : Addr).block]? = _ from h.blk]
  simp
theorem IsC.lt (h : IsC w g f) : g < w.heap.size := (Array.getElem?_eq_some_iff.1 h.blk).1
theorem IsC.keep (h : IsC w g f) (hb : w'.heap[g]? = w.heap[g]?) : IsC w' g f := ⟨h.good, hb.trans h.blk⟩
theorem IsC.below (h : IsC w g f) (hb : Below w.heap.size w w') : IsC w' g f := h.keep (hb.block g h.lt)
theorem IsC.alloc (h : IsC w g f) (o : Obj) : IsC (w.alloc o) g f := h.keep (Below.heap_alloc w o g h.lt)
theorem IsC.drew (h : IsC w g f) : IsC w.drew g f := ⟨h.good, h.blk⟩
theorem IsC.drewN (h : IsC w g f) (n : Nat) : IsC (w.drewN n) g f := ⟨h.good, h.blk⟩
theorem IsC.grown (h : IsC w g f) {r : Nat} (hr : g ≠ r) (hb : w.grownBy w' (some r)) : IsC w' g f := h.keep (hb.block g h.lt (fun e => hr (by injection e)))
/-- What is kept of a class, as it lies there. -/
theorem IsC.runs (h : IsC w g f) (k : Nat) (hk : k < 7) : Runs w (some ⟨g, k * 8, none⟩) (M.rows f k) := fun _ => ⟨g, k * 8, rfl, fun i hi => by
  have hi' : i < (f k).length := by rw [M.rows_length] at hi; exact hi
  have h4 := h.good.four k
  have a := h.c0 k i hk (by omega)
  have b := h.c1 k i hk (by omega)
  rw [if_pos hi'] at b
  rw [List.getD, List.getElem?_eq_getElem hi'] at a
  refine ⟨by rw [a]; simp [M.rows], by rw [b]; simp [M.rows]⟩⟩
end

theorem arr_len : Try.prog.arrayLen 79 = 4 := by kernel_rfl
theorem arr_elem : Try.prog.elem 79 = 34 := by kernel_rfl
theorem arr_und : Try.prog.underlying 79 = some (.array (Try.prog.arrayLen 79) (Try.prog.elem 79)) := by rw [arr_len, arr_elem]; exact Try.underlying79
theorem arr_h (w : World) (a : Addr) (j : Nat) (h : j ≤ 4) : (Instr.sliceAt 79 (.pointer (some a)) none (some (.int .i64 (j : Int))) none).run Try.prog w = .ok (.slice (some a) j 4) w := by
  have := run_sliceAt_array_h w 79 a arr_und .i64 (j : Int) (by omega) (by rw [arr_len]; omega)
  rw [this, arr_elem]
  have hs : (sizeOf 34).run Try.prog w = .ok 2 w := by kernel_rfl
  rw [hs]
  simp [slicedAt, arr_len, add_zero']
set_option maxHeartbeats 1000000 in
theorem caof_in (w : World) (g : Nat) (f : M.Ky) (h : IsC w g f) (k : Nat) (hk : k < 7) :
    Calls Try.prog 65 #[.pointer (some ⟨g, 0, none⟩), .int .i64 (k : Int)] w fun e w' => e = .returned (.slice (some ⟨g, k * 8, none⟩) (f k).length 4) ∧ w = w' := by
  have HI := Lib.hid h
  have hp := M.pg_pos k hk
  obtain ⟨p, hpp⟩ : ∃ p, M.pg (k : Int) = p := ⟨_, rfl⟩
  rw [hpp] at hp
  have hp0 : ((p : Int) == 0) = false := by simp; omega
  have HP := Lib.hid hpp
  have h4 := h.good.four k
  obtain ⟨z, hz⟩ : ∃ z, (f k).length = z := ⟨_, rfl⟩
  rw [hz] at h4
  rw [hz]
  have HZ := Lib.hid hz
  clear h hpp hz
  go_enter Try.func65, Try.ntmps65
  go_wp2_with fail
  refine (cpages_at (k : Int) p rfl HP.out _).mono ?_
  rintro e w' ⟨rfl, rfl⟩
  go_wp2_with fail
  go_loop [5, 13] (fun _ i => ∃ j : Nat, j ≤ z ∧ i = .int .i64 j) (fun _ i => 4 - (intOf i).toNat)
  case atStart => exact ⟨0, by omega, rfl⟩
  case round =>
    obtain ⟨j, hj, rfl⟩ := hrel
    by_cases hlt : j < 4
    · have c1 := HI.out.c1 k j hk hlt
      rw [HZ.out, HP.out] at c1
      by_cases hjz : j < z
      · rw [if_pos hjz] at c1
        go_wp2_with fail
        go_round
        case rel => exact ⟨j + 1, by omega, by go_num⟩
        case measure => simp [intOf]; omega
      · rw [if_neg hjz] at c1
        have e : j = z := by omega
        subst e
        have sl := arr_h w ⟨g, k * 8, none⟩ j (by omega)
        go_wp2_with fail
        go_ret
        exact ⟨rfl, rfl⟩
    · have e : z = 4 := by omega
      subst e
      go_wp2_with fail
      go_ret
      exact ⟨rfl, rfl⟩
theorem caof_out (w : World) (P : Option Addr) (c : Int) (h : P = none ∨ c < 0 ∨ 7 ≤ c) :
    Calls Try.prog 65 #[.pointer P, .int .i64 c] w fun e w' => e = .returned (.slice none 0 0) ∧ w = w' := by
  cases P with
  | none =>
    clear h
    go_enter Try.func65, Try.ntmps65
    go_wp2_with fail
    go_ret
    exact ⟨rfl, rfl⟩
  | some a =>
    have hp := Lib.hid (M.pg_out c (by simpa using h))
    clear h
    go_enter Try.func65, Try.ntmps65
    go_wp2_with fail
    refine (cpages_at c 0 rfl hp.out _).mono ?_
    rintro e w' ⟨rfl, rfl⟩
    go_wp2_with fail
    go_ret
    exact ⟨rfl, rfl⟩
/-- What is kept of a class, at an address. -/
def ofA (g : Nat) (f : M.Ky) (c : Int) : Option Addr := if 0 ≤ c ∧ c < 7 then some ⟨g, c.toNat * 8, none⟩ else none
def ofC (c : Int) : Nat := if 0 ≤ c ∧ c < 7 then 4 else 0
theorem caof_any (w : World) (g : Nat) (f : M.Ky) (h : IsC w g f) (c : Int) :
    Calls Try.prog 65 #[.pointer (some ⟨g, 0, none⟩), .int .i64 c] w fun e w' => e = .returned (.slice (ofA g f c) (f c).length (ofC c)) ∧ w = w' := by
  unfold ofA ofC
  by_cases hc : 0 ≤ c ∧ c < 7
  · rw [if_pos hc, if_pos hc]
    obtain ⟨k, rfl⟩ : ∃ k : Nat, c = k := ⟨c.toNat, by omega⟩
    exact caof_in w g f h k (by omega)
  · rw [if_neg hc, if_neg hc, h.good.out c (by omega)]
    exact caof_out w _ c (by omega)
theorem calen_any (w : World) (g : Nat) (f : M.Ky) (h : IsC w g f) (c : Int) :
    Calls Try.prog 56 #[.pointer (some ⟨g, 0, none⟩), .int .i64 c] w fun e w' => e = .returned (.int .i64 ((f c).length : Int)) ∧ w = w' := by
  have H := Lib.hid h
  clear h
  go_enter Try.func56, Try.ntmps56
  go_wp2_with fail
  refine (caof_any _ g f H.out c).mono ?_
  rintro e w' ⟨rfl, rfl⟩
  go_wp2_with fail
  go_ret
  exact ⟨rfl, rfl⟩
theorem calen_nil (w : World) (c : Int) :
    Calls Try.prog 56 #[.pointer none, .int .i64 c] w fun e w' => e = .returned (.int .i64 0) ∧ w = w' := by
  go_enter Try.func56, Try.ntmps56
  go_wp2_with fail
  refine (caof_out _ none c (.inl rfl)).mono ?_
  rintro e w' ⟨rfl, rfl⟩
  go_wp2_with fail
  go_ret
  exact ⟨rfl, rfl⟩

theorem cacl_empty : cacl M.empty = List.replicate 56 (.int .i64 0) := by
  apply List.ext_getElem?
  intro j
  by_cases h : j < 56
  · rw [cacl_at _ j h, List.getElem?_replicate, if_pos h]
    unfold caval
    simp [M.empty]
  · rw [List.getElem?_eq_none (by rw [cacl_length]; omega), List.getElem?_eq_none (by simp; omega)]
theorem IsC.new (w : World) : IsC (w.alloc (.cells (List.replicate 56 (Value.int .i64 0)).toArray 82)) w.heap.size M.empty := by
  refine ⟨M.Good.empty, ?_⟩
  rw [cacl_empty]
  unfold World.alloc
  simp
/-- All cells are laid anew. -/
theorem IsC.clear {w : World} {g : Nat} {f : M.Ky} (h : IsC w g f) : IsC (w.setRow g (List.replicate 56 (Value.int .i64 0)).toArray) g M.empty := by
  refine ⟨M.Good.empty, ?_⟩
  rw [cacl_empty]
  exact setRow_heap w g _ _ _ _ h.blk
/-- A place is laid anew. -/
theorem IsC.set {w : World} {g : Nat} {f : M.Ky} (h : IsC w g f) (k n : Nat) (hk : k < 7) (hn : n < 4) (v q : Int) (f' : M.Ky) (hg : M.Good f') (hd : ∀ d : Int, d ≠ k → f' d = f d)
    (h0 : ∀ m, m < 4 → (f' k).getD m 0 = if m = n then v else (f k).getD m 0)
    (h1 : ∀ m, m < 4 → (if m < (f' k).length then M.pg k else 0) = if m = n then q else if m < (f k).length then M.pg k else 0) :
    IsC ((w.setCell ⟨g, k * 8 + n * 2, none⟩ (.int .i64 v)).setCell ⟨g, k * 8 + n * 2 + 1, none⟩ (.int .i64 q)) g f' := by
  refine ⟨hg, ?_⟩
  have e1 := setCell_eq_setRow w g (k * 8 + n * 2) _ _ _ (.int .i64 v) h.blk
  rw [e1]
  have b1 := setRow_heap w g _ ((cacl f).toArray.setIfInBounds (k * 8 + n * 2) (.int .i64 v)) _ _ h.blk
  have e2 := setCell_eq_setRow _ g (k * 8 + n * 2 + 1) _ _ _ (.int .i64 q) b1
  rw [e2]
  rw [setRow_heap _ g _ _ _ _ b1]
  congr 2
  apply Array.ext'
  simp only [List.setIfInBounds_toArray, List.toList_toArray]
  apply List.ext_getElem?
  intro j
  by_cases hj : j < 56
  · rw [cacl_at f' j hj, List.getElem?_set, List.getElem?_set]
    simp only [List.length_set, cacl_length]
    have hv : caval f' j = if k * 8 + n * 2 + 1 = j then q else if k * 8 + n * 2 = j then v else caval f j := by
      obtain ⟨k', m, b, hm, rfl, hb⟩ : ∃ k' m b, m < 4 ∧ j = k' * 8 + m * 2 + b ∧ (b = 0 ∨ b = 1) := ⟨j / 8, j % 8 / 2, j % 2, by omega, by omega, by omega⟩
      by_cases ek : k' = k
      · subst ek
        rcases hb with rfl | rfl
        · rw [Nat.add_zero, caval0 f' _ _ hm, caval0 f _ _ hm, h0 m hm]
          by_cases em : m = n
          · rw [if_pos em, if_neg (by omega), if_pos (by omega)]
          · rw [if_neg em, if_neg (by omega), if_neg (by omega)]
        · rw [caval1 f' _ _ hm, caval1 f _ _ hm, h1 m hm]
          by_cases em : m = n
          · rw [if_pos em, if_pos (by omega)]
          · rw [if_neg em, if_neg (show ¬ k' * 8 + n * 2 + 1 = k' * 8 + m * 2 + 1 by omega), if_neg (show ¬ k' * 8 + n * 2 = k' * 8 + m * 2 + 1 by omega)]
      · have ef := hd (k' : Int) (by omega)
        rw [if_neg (by omega), if_neg (by omega)]
        rcases hb with rfl | rfl
        · rw [Nat.add_zero, caval0 f' _ _ hm, caval0 f _ _ hm, ef]
        · rw [caval1 f' _ _ hm, caval1 f _ _ hm, ef]
    rw [hv]
    by_cases e1 : k * 8 + n * 2 + 1 = j
    · rw [if_pos e1, if_pos e1, if_pos (by omega)]
    · rw [if_neg e1, if_neg e1]
      by_cases e2 : k * 8 + n * 2 = j
      · rw [if_pos e2, if_pos e2, if_pos (by omega)]
      · rw [if_neg e2, if_neg e2, cacl_at f j hj]
  · rw [List.getElem?_eq_none (by simp [cacl_length]; omega), List.getElem?_eq_none (by simp [cacl_length]; omega)]
theorem IsC.push {w : World} {g : Nat} {f : M.Ky} (h : IsC w g f) (k n : Nat) (hk : k < 7) (hn : n < 4) (en : (f k).length = n) (v : Int) (hv : 0 ≤ v) :
    IsC ((w.setCell ⟨g, k * 8 + n * 2, none⟩ (.int .i64 v)).setCell ⟨g, k * 8 + n * 2 + 1, none⟩ (.int .i64 (M.pg k))) g (M.pushF f k v) := by
  have hb : M.pushB f k v = true := (M.pushB_iff _ _ _).2 ⟨by omega, by omega, hv, by omega⟩
  refine h.set k n hk hn v _ _ (h.good.push _ _) (fun d hd => ?_) (fun m hm => ?_) (fun m hm => ?_)
  · rw [M.pushF_yes _ _ _ hb, M.upd_ne _ _ _ _ hd]
  · rw [M.pushF_yes _ _ _ hb, M.upd_self]
    subst en
    simp only [List.getD]
    by_cases e : m = (f k).length
    · subst e; simp
    · rw [if_neg e]
      rcases Nat.lt_or_ge m (f k).length with hl | hl
      · rw [List.getElem?_append_left hl]
      · rw [List.getElem?_eq_none (by simp; omega), List.getElem?_eq_none (by omega)]
  · rw [M.pushF_yes _ _ _ hb, M.upd_self]
    subst en
    simp only [List.length_append, List.length_cons, List.length_nil]
    by_cases e : m = (f k).length
    · rw [if_pos (by omega), if_pos e]
    · rw [if_neg e]
      by_cases hl : m < (f k).length
      · rw [if_pos (by omega), if_pos hl]
      · rw [if_neg (by omega), if_neg hl]
theorem IsC.pop {w : World} {g : Nat} {f : M.Ky} (h : IsC w g f) (k n : Nat) (hk : k < 7) (en : (f k).length = n + 1) :
    IsC ((w.setCell ⟨g, k * 8 + n * 2, none⟩ (.int .i64 0)).setCell ⟨g, k * 8 + n * 2 + 1, none⟩ (.int .i64 0)) g (M.popF f k) := by
  have h4 := h.good.four k
  refine h.set k n hk (by omega) 0 0 _ (h.good.pop _) (fun d hd => ?_) (fun m hm => ?_) (fun m hm => ?_)
  · unfold M.popF; rw [M.upd_ne _ _ _ _ hd]
  · unfold M.popF; rw [M.upd_self]
    simp only [List.getD]
    rw [List.getElem?_dropLast]
    by_cases e : m = n
    · subst e; rw [if_neg (by omega)]; simp
    · rw [if_neg e]
      by_cases hl : m < (f k).length - 1
      · rw [if_pos hl]
      · rw [if_neg hl, List.getElem?_eq_none (by omega)]
  · unfold M.popF; rw [M.upd_self]
    rw [List.length_dropLast]
    by_cases e : m = n
    · rw [if_neg (by omega), if_pos e]
    · rw [if_neg e]
      by_cases hl : m < (f k).length
      · rw [if_pos (by omega), if_pos hl]
      · rw [if_neg (by omega), if_neg hl]
set_option maxHeartbeats 1000000 in
theorem canew_any (w : World) : Calls Try.prog 23 #[] w fun e w' => ∃ g, e = .returned (.pointer (some ⟨g, 0, none⟩)) ∧ IsC w' g M.empty ∧ Below w.heap.size w w' ∧ w.heap.size ≤ g := by
  have H := Lib.hid (IsC.new w)
  go_enter Try.func23, Try.ntmps23
  go_wp2_with fail
  go_ret
  exact ⟨w.heap.size, rfl, H.out, (Below.refl _ _).alloc (Nat.le_refl _) _, Nat.le_refl _⟩
end Go.Proofs.Ytmagdhcpbofkbaa
/-
  Push, Pop, Clear and Pages of a Cache.
-/
namespace Go.Proofs.Ytmagdhcpbofkbaa
open Go.ChangeShapes Go.WideShapes Go.ChangeAt Go.RowKit Go.Deep
set_option linter.unusedVariables false
set_option maxRecDepth 20000

theorem cagrown_two (w : World) (g a b : Nat) (u v : Value) : w.grownBy ((w.setCell ⟨g, a, none⟩ u).setCell ⟨g, b, none⟩ v) (some g) :=
  only_setCell (only_setCell ⟨rfl, rfl, rfl, Nat.le_refl _, fun _ _ _ => rfl⟩ (p := ⟨g, a, none⟩) rfl u) (p := ⟨g, b, none⟩) rfl v
theorem cagrown_refl (w : World) (g : Nat) : w.grownBy w (some g) := ⟨rfl, rfl, rfl, Nat.le_refl _, fun _ _ _ => rfl⟩

set_option maxHeartbeats 1000000 in
theorem capush_any (w : World) (g : Nat) (f : M.Ky) (h : IsC w g f) (c p : Int) :
    Calls Try.prog 38 #[.pointer (some ⟨g, 0, none⟩), .int .i64 c, .int .i64 p] w fun e w' => e = .returned (.bool (M.pushB f c p)) ∧ IsC w' g (M.pushF f c p) ∧ w.grownBy w' (some g) := by
  have H := Lib.hid h
  have h4 := h.good.four c
  clear h
  obtain ⟨n, hn⟩ : ∃ n, (f c).length = n := ⟨_, rfl⟩
  obtain ⟨q, hq⟩ : ∃ q, M.pg c = q := ⟨_, rfl⟩
  rw [hn] at h4
  by_cases hb : 0 ≤ c ∧ c < 7 ∧ 0 ≤ p ∧ n < 4
  · obtain ⟨k, rfl⟩ : ∃ k : Nat, c = k := ⟨c.toNat, by omega⟩
    obtain ⟨b1, b2, b3, b4⟩ := hb
    have hk : k < 7 := by omega
    have hp := M.pg_pos k hk
    rw [hq] at hp
    have hq0 : (q == 0) = false := by simp; omega
    have hn4 : ((n : Int) == 4) = false := by simp; omega
    have BB := Lib.hid ((M.pushB_iff f k p).2 ⟨b1, b2, b3, by omega⟩)
    have NEW := Lib.hid (H.out.push k n hk b4 hn p b3)
    have c0 := H.out.c0 k n hk b4
    have c1 := H.out.c1 k n hk b4
    rw [hn, if_neg (by omega)] at c1
    rw [List.getD, List.getElem?_eq_none (by omega)] at c0
    simp only [Option.getD_none] at c0
    have f0 := H.out.fr (k * 8 + n * 2)
    have f1 := H.out.fr (k * 8 + n * 2 + 1)
    rw [hq] at NEW
    have HQ := Lib.hid hq
    have HN := Lib.hid hn
    clear hq hn h4
    go_enter Try.func38, Try.ntmps38
    go_wp2_with fail
    refine (cpages_at (k : Int) q rfl HQ.out _).mono ?_
    rintro e w' ⟨rfl, rfl⟩
    go_wp2_with fail
    refine (calen_any _ g f H.out k).mono ?_
    rintro e w' ⟨rfl, rfl⟩
    rw [HN.out]
    go_wp2_with fail
    go_ret
    exact ⟨retB BB.out.symm, NEW.out, cagrown_two _ _ _ _ _ _⟩
  · have BB := Lib.hid (M.pushB_no f c p (by rw [hn]; exact hb))
    have FF := Lib.hid (M.pushF_no f c p BB.out)
    have HQ := Lib.hid hq
    have HN := Lib.hid hn
    rw [BB.out, FF.out]
    by_cases hc : 0 ≤ c ∧ c < 7
    · have hp : 1 ≤ q := by
        have := M.pg_pos c.toNat (by omega)
        rw [show ((c.toNat : Nat) : Int) = c by omega, hq] at this
        exact this
      have hq0 : (q == 0) = false := by simp; omega
      by_cases hp0 : p < 0
      · clear hq hn h4 hb hc hp
        go_enter Try.func38, Try.ntmps38
        go_wp2_with fail
        refine (cpages_at c q rfl HQ.out _).mono ?_
        rintro e w' ⟨rfl, rfl⟩
        go_wp2_with fail
        refine (calen_any _ g f H.out c).mono ?_
        rintro e w' ⟨rfl, rfl⟩
        rw [HN.out]
        go_wp2_with fail
        go_ret
        exact ⟨rfl, H.out, cagrown_refl _ _⟩
      · have e4 : n = 4 := by omega
        subst e4
        clear hq hn h4 hb hc hp
        go_enter Try.func38, Try.ntmps38
        go_wp2_with fail
        refine (cpages_at c q rfl HQ.out _).mono ?_
        rintro e w' ⟨rfl, rfl⟩
        go_wp2_with fail
        refine (calen_any _ g f H.out c).mono ?_
        rintro e w' ⟨rfl, rfl⟩
        rw [HN.out]
        go_wp2_with fail
        go_ret
        exact ⟨rfl, H.out, cagrown_refl _ _⟩
    · have e0 : q = 0 := by rw [← hq]; exact M.pg_out c (by omega)
      subst e0
      clear hq hn h4 hb hc
      go_enter Try.func38, Try.ntmps38
      go_wp2_with fail
      refine (cpages_at c 0 rfl HQ.out _).mono ?_
      rintro e w' ⟨rfl, rfl⟩
      go_wp2_with fail
      refine (calen_any _ g f H.out c).mono ?_
      rintro e w' ⟨rfl, rfl⟩
      rw [HN.out]
      go_wp2_with fail
      go_ret
      exact ⟨rfl, H.out, cagrown_refl _ _⟩
theorem capush_nil (w : World) (c p : Int) :
    Calls Try.prog 38 #[.pointer none, .int .i64 c, .int .i64 p] w fun e w' => e = .returned (.bool false) ∧ w = w' := by
  go_enter Try.func38, Try.ntmps38
  go_wp2_with fail
  refine (cpages_at c _ rfl rfl _).mono ?_
  rintro e w' ⟨rfl, rfl⟩
  go_wp2_with fail
  refine (calen_nil _ c).mono ?_
  rintro e w' ⟨rfl, rfl⟩
  go_wp2_with fail
  go_ret
  exact ⟨rfl, rfl⟩

set_option maxHeartbeats 1000000 in
theorem capop_any (w : World) (g : Nat) (f : M.Ky) (h : IsC w g f) (c : Int) :
    Calls Try.prog 47 #[.pointer (some ⟨g, 0, none⟩), .int .i64 c] w fun e w' => e = .returned (.tuple #[.int .i64 (M.popV f c), .bool (M.popB f c)]) ∧ IsC w' g (M.popF f c) ∧ w.grownBy w' (some g) := by
  have H := Lib.hid h
  obtain ⟨n, hn⟩ : ∃ n, (f c).length = n := ⟨_, rfl⟩
  rcases Nat.eq_zero_or_pos n with h0 | h0
  · subst h0
    have hb : M.popB f c = false := by unfold M.popB; rw [hn]; simp
    rw [M.popV_no f c hb, M.popF_no f c hb, hb]
    have HN := Lib.hid hn
    clear h hn hb
    go_enter Try.func47, Try.ntmps47
    go_wp2_with fail
    refine (caof_any _ g f H.out c).mono ?_
    rintro e w' ⟨rfl, rfl⟩
    rw [HN.out]
    go_wp2_with fail
    go_ret2
    exact ⟨rfl, H.out, cagrown_refl _ _⟩
  · obtain ⟨m, rfl⟩ : ∃ m, n = m + 1 := ⟨n - 1, by omega⟩
    have hin : 0 ≤ c ∧ c < 7 := by
      apply Decidable.byContradiction
      intro hc
      rw [h.good.out c (by omega)] at hn
      simp at hn
    obtain ⟨k, rfl⟩ : ∃ k : Nat, c = k := ⟨c.toNat, by omega⟩
    have hk : k < 7 := by omega
    have h4 := h.good.four k
    have hm : m < 4 := by omega
    have hb : M.popB f k = true := by unfold M.popB; rw [hn]; simp
    have hv : M.popV f k = (f k).getD m 0 := by unfold M.popV; rw [hn]; rfl
    have c0 := h.c0 k m hk hm
    have c1 := h.c1 k m hk hm
    rw [← hv] at c0
    obtain ⟨q, hq⟩ : ∃ q, (if m < (f k).length then M.pg k else 0) = q := ⟨_, rfl⟩
    rw [hq] at c1
    obtain ⟨v, hv'⟩ : ∃ v, M.popV f k = v := ⟨_, rfl⟩
    rw [hv'] at c0
    rw [hv', hb]
    have NEW := Lib.hid (h.pop k m hk hn)
    have f0 := h.fr (k * 8 + m * 2)
    have f1 := h.fr (k * 8 + m * 2 + 1)
    have HN := Lib.hid hn
    clear h hn hb hv hv' hq h4 hin h0
    go_enter Try.func47, Try.ntmps47
    go_wp2_with fail
    refine (caof_in _ g f H.out k hk).mono ?_
    rintro e w' ⟨rfl, rfl⟩
    rw [HN.out]
    go_wp2_with fail
    go_ret2
    exact ⟨rfl, NEW.out, cagrown_two _ _ _ _ _ _⟩
theorem capop_nil (w : World) (c : Int) :
    Calls Try.prog 47 #[.pointer none, .int .i64 c] w fun e w' => e = .returned (.tuple #[.int .i64 0, .bool false]) ∧ w = w' := by
  go_enter Try.func47, Try.ntmps47
  go_wp2_with fail
  refine (caof_out _ none c (.inl rfl)).mono ?_
  rintro e w' ⟨rfl, rfl⟩
  go_wp2_with fail
  go_ret2
  exact ⟨rfl, rfl⟩

set_option maxHeartbeats 1000000 in
theorem capages_any (w : World) (g : Nat) (f : M.Ky) (h : IsC w g f) :
    Calls Try.prog 43 #[.pointer (some ⟨g, 0, none⟩)] w fun e w' => e = .returned (.int .i64 (M.sum f)) ∧ w = w' := by
  have H := Lib.hid h
  clear h
  go_enter Try.func43, Try.ntmps43
  go_wp2_with fail
  go_loop [3, 4, 5] (fun t _ i => ∃ k : Nat, k ≤ 7 ∧ i = .int .i64 (k : Int) ∧ t = .int .i64 (M.sumTo f k)) (fun _ _ i => 7 - (intOf i).toNat)
  case atStart => exact ⟨0, by omega, rfl, rfl⟩
  case round =>
    obtain ⟨k, hk, rfl, rfl⟩ := hrel
    by_cases hlt : k < 7
    · have b1 := M.sumTo_between H.out.good k hk
      have b2 := M.len_mul H.out.good k
      have es : M.sumTo f (k + 1) = M.sumTo f k + ((f k).length : Int) * M.pg k := rfl
      obtain ⟨T, hT⟩ : ∃ T, M.sumTo f k = T := ⟨_, rfl⟩
      obtain ⟨n, hn⟩ : ∃ n : Int, ((f k).length : Int) = n := ⟨_, rfl⟩
      obtain ⟨q, hq⟩ : ∃ q, M.pg k = q := ⟨_, rfl⟩
      rw [hT] at b1 es
      rw [hn, hq] at b2 es
      rw [hT]
      obtain ⟨x, hx⟩ : ∃ x, n * q = x := ⟨_, rfl⟩
      rw [hx] at b2 es
      have s1 : wrap64 (n * q) = x := by rw [hx]; unfold wrap64; omega
      have s2 : wrap64 (T + x) = T + x := by unfold wrap64; omega
      have ES := Lib.hid es
      have HQ := Lib.hid hq
      have HN := Lib.hid hn
      clear b1 b2 es hT hn hq hx
      go_wp2_with fail
      refine (calen_any _ g f H.out k).mono ?_
      rintro e w' ⟨rfl, rfl⟩
      rw [HN.out]
      go_wp2_with fail
      refine (cpages_at (k : Int) q rfl HQ.out _).mono ?_
      rintro e w' ⟨rfl, rfl⟩
      go_wp2_with fail
      go_round
      case rel => exact ⟨k + 1, by omega, by go_num, by rw [ES.out, s2]⟩
      case measure => simp [intOf]; omega
    · have e : k = 7 := by omega
      subst e
      go_wp2_with fail
      go_ret
      exact ⟨rfl, rfl⟩
set_option maxHeartbeats 1000000 in
theorem capages_nil (w : World) :
    Calls Try.prog 43 #[.pointer none] w fun e w' => e = .returned (.int .i64 0) ∧ w = w' := by
  go_enter Try.func43, Try.ntmps43
  go_wp2_with fail
  go_loop [3, 4, 5] (fun t _ i => ∃ k : Nat, k ≤ 7 ∧ i = .int .i64 (k : Int) ∧ t = .int .i64 0) (fun _ _ i => 7 - (intOf i).toNat)
  case atStart => exact ⟨0, by omega, rfl, rfl⟩
  case round =>
    obtain ⟨k, hk, rfl, rfl⟩ := hrel
    by_cases hlt : k < 7
    · obtain ⟨q, hq⟩ : ∃ q, M.pg k = q := ⟨_, rfl⟩
      have HQ := Lib.hid hq
      clear hq
      go_wp2_with fail
      refine (calen_nil _ k).mono ?_
      rintro e w' ⟨rfl, rfl⟩
      go_wp2_with fail
      refine (cpages_at (k : Int) q rfl HQ.out _).mono ?_
      rintro e w' ⟨rfl, rfl⟩
      go_wp2_with fail
      go_round
      case rel => exact ⟨k + 1, by omega, by go_num, by go_num⟩
      case measure => simp [intOf]; omega
    · go_wp2_with fail
      go_ret
      exact ⟨rfl, rfl⟩
theorem caclear_nil (w : World) : Calls Try.prog 45 #[.pointer none] w fun e w' => e = .returned (.tuple #[]) ∧ w = w' := by
  go_enter Try.func45, Try.ntmps45
  go_wp2_with fail
  go_end0
  exact ⟨rfl, rfl⟩
theorem caclear_any (w : World) (g : Nat) (f : M.Ky) (h : IsC w g f) : Calls Try.prog 45 #[.pointer (some ⟨g, 0, none⟩)] w fun e w' => e = .returned (.tuple #[]) ∧ IsC w' g M.empty ∧ w.grownBy w' (some g) := by
  have H := Lib.hid h
  have one : (List.replicate 56 (Value.int .i64 0)).toArray.all (·.oneCell') = true := by kernel_rfl
  have ONE := Lib.hid one
  clear h one
  go_enter Try.func45, Try.ntmps45
  go_wp2_with (refine wpList_store_row rfl 82 (Operand.tmp 6) (Operand.tmp 5) rfl g (List.replicate 56 (Value.int .i64 0)).toArray rfl rfl _ _ H.out.blk (by kernel_rfl) (by simp [cacl_length]) ONE.out ?_)
  go_end0
  exact ⟨rfl, H.out.clear, ⟨rfl, rfl, rfl, by simp, fun i hi hne => setRow_other w g i _ (fun e => hne (by rw [e]))⟩⟩
end Go.Proofs.Ytmagdhcpbofkbaa
/-
  All of a Cache.
-/
namespace Go.Proofs.Ytmagdhcpbofkbaa
open Go.ChangeShapes Go.WideShapes Go.ChangeAt Go.RowKit Go.Deep
set_option linter.unusedVariables false
set_option maxRecDepth 20000

theorem made56 : madeCells #[Value.int .i64 0, Value.int .i64 0] 56 = (List.replicate 56 (Value.int .i64 0)).toArray := by kernel_rfl
theorem run_make28 (w : World) : (Instr.makeSlice 29 (.int .i64 28) (.int .i64 28)).run Try.prog w = .ok (.slice (some ⟨w.heap.size, 0, none⟩) 28 28) (w.alloc (.cells (List.replicate 56 (Value.int .i64 0)).toArray 34)) := by
  obtain ⟨i, hi, hz, hs, hb⟩ := info36
  have := run_make w 29 34 i _ Try.underlying29 hi hz .i64 .i64 28 28 (by omega) (by omega) (by rw [hb]; omega) (by omega)
  rw [this, hs, ← made56]
  rfl
/-- What All answers: a list of runs in new memory. -/
def AllGot (w : World) (l : List M.R) (e : Ending) (w' : World) : Prop := ∃ g z, e = .returned (.slice (some ⟨g, 0, none⟩) z 28) ∧ z = l.length ∧ z ≤ 28 ∧ Runs w' (some ⟨g, 0, none⟩) l ∧ w.heap.size ≤ g ∧ Below w.heap.size w w'
/-- How far All has come. -/
structure Sofar (w wr : World) (f : M.Ky) (ga k n : Nat) : Prop where
  kk : k ≤ 7
  nn : n = (M.allTo f k).length
  blk : ∃ cs : List Value, Blk wr ga cs ∧ cs.length = 56 ∧ cs.take (n * 2) = rc (M.allTo f k)
  bel : Below w.heap.size w wr
theorem Sofar.step {w wr : World} {f : M.Ky} {ga k n : Nat} (hg : M.Good f) (hga : w.heap.size ≤ ga) (h : Sofar w wr f ga k n) (hk : k < 7) (cs : List Value) (hb : Blk wr ga cs) (hl : cs.length = 56) (ht : cs.take (n * 2) = rc (M.allTo f k)) (m : Nat) (hm : m = n + (f k).length) :
    Sofar w (wr.drew.setRow ga (splice cs (n * 2) (rc (M.rows f k))).toArray) f ga (k + 1) m := by
  have h1 := M.allTo_length hg k
  have h2 := hg.four k
  have h3 := h.nn
  have hrl : (rc (M.rows f k)).length = (f k).length * 2 := by rw [rc_length, M.rows_length]
  refine ⟨by omega, ?_, ⟨_, hb.drew.set _, ?_, ?_⟩, below_setRow h.bel.drew hga _⟩
  · rw [M.allTo, List.length_append, M.rows_length]; omega
  · rw [splice_length _ _ _ (by omega), hl]
  · have e : m * 2 = n * 2 + (rc (M.rows f k)).length := by omega
    rw [e, splice, List.append_assoc, List.take_append, List.take_append, List.take_of_length_le (by simp; omega)]
    rw [show (cs.take (n * 2)).length = n * 2 by simp; omega, Nat.add_sub_cancel_left, List.take_of_length_le (Nat.le_refl _), Nat.sub_self, List.take_zero, List.append_nil, ht, ← rc_append]
    rfl

set_option maxHeartbeats 4000000 in
theorem caall_go (w : World) (P : Option Addr) (f : M.Ky) (A : Nat → Option Addr) (cap : Nat → Nat) (hg : M.Good f)
    (hof : ∀ W, Below w.heap.size w W → ∀ k : Nat, k < 7 → Calls Try.prog 65 #[.pointer P, .int .i64 (k : Int)] W fun e w' => e = .returned (.slice (A k) (f k).length (cap k)) ∧ W = w')
    (hcp : ∀ W ga cs, Below w.heap.size w W → Blk W ga cs → w.heap.size ≤ ga → cs.length = 56 → ∀ k : Nat, k < 7 → ∀ n, n ≤ 24 → ∀ ty, (Builtin.copy_ #[29, 29] ty #[.slice (some ⟨ga, n * 2, none⟩) (28 - n) (28 - n), .slice (A k) (f k).length (cap k)]).run Try.prog W = .ok (goInt ((f k).length : Int)) (W.setRow ga (splice cs (n * 2) (rc (M.rows f k))).toArray)) :
    Calls Try.prog 44 #[.pointer P] w (AllGot w (M.all f)) := by
  have mk := run_make28 w
  obtain ⟨ga, hga⟩ : ∃ ga, ga = w.heap.size := ⟨_, rfl⟩
  rw [← hga] at mk
  obtain ⟨w1, hw1⟩ : ∃ w1, w1 = w.alloc (.cells (List.replicate 56 (Value.int .i64 0)).toArray 34) := ⟨_, rfl⟩
  rw [← hw1] at mk
  have s0 : Sofar w w1 f ga 0 0 := ⟨by omega, rfl, ⟨List.replicate 56 (.int .i64 0), by rw [hga, hw1]; exact Blk.new w _, by simp, by simp [M.allTo, rc_nil]⟩, by rw [hw1]; exact (Below.refl _ _).alloc (Nat.le_refl _) _⟩
  have S0 := Lib.hid s0
  have OF := Lib.hid hof
  have CP := Lib.hid hcp
  have GA := Lib.hid (show w.heap.size ≤ ga by omega)
  clear s0 hof hcp hga hw1
  go_enter Try.func44, Try.ntmps44
  go_wp2_with fail
  go_loopw [4, 5, 7] (fun t _ i wr => ∃ k n : Nat, i = .int .i64 (k : Int) ∧ t = .int .i64 (n : Int) ∧ Sofar w wr f ga k n) (fun _ _ i _ => 7 - (intOf i).toNat)
  case atStart => exact ⟨0, 0, rfl, rfl, S0.out⟩
  case round =>
    obtain ⟨k, n, rfl, rfl, hs⟩ := hrel
    have hk := hs.kk
    by_cases hlt : k < 7
    · obtain ⟨cs, hb, hl, ht⟩ := hs.blk
      have h1 := M.allTo_length hg k
      have hn := hs.nn
      have h4 := hg.four k
      have n24 : n ≤ 24 := by omega
      have n28 : n ≤ 28 := by omega
      have i28 : (n : Int) ≤ 28 := by omega
      have ne28 : ¬ 28 = n := by omega
      obtain ⟨z, hz⟩ : ∃ z, (f k).length = z := ⟨_, rfl⟩
      obtain ⟨m, hm⟩ : ∃ m, m = n + z := ⟨_, rfl⟩
      have STEP := Lib.hid (hs.step hg GA.out hlt cs hb hl ht m (by omega))
      have cp := CP.out wr.drew ga cs hs.bel.drew hb.drew GA.out hl k hlt n n24
      rw [hz] at cp
      have hw2 : IntKind.i64.wrap ((n : Int) + (z : Int)) = (m : Int) := by rw [IntKind.wrap_i64]; omega
      have HZ := Lib.hid hz
      have DB := Lib.hid hs.bel.drew
      clear hs hb hl ht h1 hn h4 n24 hz hm hk
      go_wp2_with fail
      refine wp_region_noPanic ?_
      refine wp_region_held_drew (S := fun _ => True) (by kernel_rfl) (trivial) (fun hHeld => ?_)
      refine wpAnyH_take (i := 0) (oi := ({ dst := some 10, op := Op.move (Operand.tmp 4), type := 3, pos := "cache.go:71", after := #[], guard := none } : Oper)) (v := ?_) rfl (by kernel_rfl) (by kernel_rfl) (by kernel_rfl) (fun _ _ _ h => h) (Or.inl ⟨by rfl, ?_⟩) (by assumption) ?_
      rotate_left
      · (intro w hSw; (try dsimp only at hSw); go_simp) <;> with_reducible rfl
      (try simp only [Act.put, List.setIfInBounds_toArray, List.set_cons_zero, List.set_cons_succ])
      refine wpAnyH_take (i := 1) (oi := ({ dst := some 11, op := Op.move (Operand.tmp 3), type := 29, pos := "cache.go:71", after := #[], guard := none } : Oper)) (v := ?_) rfl (by kernel_rfl) (by kernel_rfl) (by kernel_rfl) (fun _ _ _ h => h) (Or.inl ⟨by rfl, ?_⟩) (by assumption) ?_
      rotate_left
      · (intro w hSw; (try dsimp only at hSw); go_simp) <;> with_reducible rfl
      (try simp only [Act.put, List.setIfInBounds_toArray, List.set_cons_zero, List.set_cons_succ])
      refine wpAnyH_take (i := 2) (oi := ({ dst := some 12, op := Op.move (Operand.tmp 4), type := 3, pos := "cache.go:71", after := #[], guard := none } : Oper)) (v := ?_) rfl (by kernel_rfl) (by kernel_rfl) (by kernel_rfl) (fun _ _ _ h => h) (Or.inl ⟨by rfl, ?_⟩) (by assumption) ?_
      rotate_left
      · (intro w hSw; (try dsimp only at hSw); go_simp) <;> with_reducible rfl
      (try simp only [Act.put, List.setIfInBounds_toArray, List.set_cons_zero, List.set_cons_succ])
      refine wpAnyH_take (i := 3) (oi := ({ dst := some 13, op := Op.slice 29 (Operand.tmp 11) (some (Operand.tmp 12)) none none, type := 29, pos := "cache.go:71", after := #[{ on := 1, ground := Ground.data }, { on := 2, ground := Ground.data }], guard := none } : Oper)) (v := ?_) rfl (by kernel_rfl) (by kernel_rfl) (by kernel_rfl) (fun _ _ _ h => h) (Or.inl ⟨by rfl, ?_⟩) (by assumption) ?_
      rotate_left
      · (intro w hSw; (try dsimp only at hSw); go_simp) <;> with_reducible rfl
      (try simp only [Act.put, List.setIfInBounds_toArray, List.set_cons_zero, List.set_cons_succ])
      refine wpAnyH_take (i := 4) (oi := ({ dst := some 14, op := Op.move (Operand.tmp 0), type := 58, pos := "cache.go:71", after := #[], guard := none } : Oper)) (v := ?_) rfl (by kernel_rfl) (by kernel_rfl) (by kernel_rfl) (fun _ _ _ h => h) (Or.inl ⟨by rfl, ?_⟩) (by assumption) ?_
      rotate_left
      · (intro w hSw; (try dsimp only at hSw); go_simp) <;> with_reducible rfl
      (try simp only [Act.put, List.setIfInBounds_toArray, List.set_cons_zero, List.set_cons_succ])
      refine wpAnyH_take (i := 5) (oi := ({ dst := some 15, op := Op.move (Operand.tmp 5), type := 3, pos := "cache.go:71", after := #[], guard := none } : Oper)) (v := ?_) rfl (by kernel_rfl) (by kernel_rfl) (by kernel_rfl) (fun _ _ _ h => h) (Or.inl ⟨by rfl, ?_⟩) (by assumption) ?_
      rotate_left
      · (intro w hSw; (try dsimp only at hSw); go_simp) <;> with_reducible rfl
      (try simp only [Act.put, List.setIfInBounds_toArray, List.set_cons_zero, List.set_cons_succ])
      refine wpAnyH_ready (rs := [6]) (by kernel_rfl) (by simp) ?_
      refine AllReadyH.cons (o := ({ dst := some 16, op := Op.call { callee := Callee.value (Operand.func 65), args := #[Operand.tmp 14, Operand.tmp 15], argTypes := #[58, 3] }, type := 29, pos := "cache.go:71", after := #[{ on := 4, ground := Ground.data }, { on := 5, ground := Ground.data }], guard := none } : Oper)) rfl (fun K hK => ?_) ?_
      · go_simp
        refine (OF.out _ DB.out k hlt).mono ?_
        rintro e y1 ⟨rfl, rfl⟩
        rw [HZ.out]
        go_wp2_with fail
        refine hK.out _ _ ?_ (fun hHeld => ?_)
        · trivial
        clear hK K
        (try simp only [Act.put, List.setIfInBounds_toArray, List.set_cons_zero, List.set_cons_succ])
        refine wpAnyH_ready (rs := [7]) (by kernel_rfl) (by simp) ?_
        refine AllReadyH.cons (o := ({ dst := some 17, op := Op.call { callee := Callee.builtin Builtin.copy, args := #[Operand.tmp 13, Operand.tmp 16], argTypes := #[29, 29] }, type := 3, pos := "cache.go:71", after := #[{ on := 3, ground := Ground.data }, { on := 6, ground := Ground.data }, { on := 6, ground := Ground.chain }], guard := none } : Oper)) rfl (fun K hK => ?_) ?_
        · go_simp
          refine hK.out _ _ ?_ (fun hHeld => ?_)
          · trivial
          clear hK K
          (try simp only [Act.put, List.setIfInBounds_toArray, List.set_cons_zero, List.set_cons_succ])
          refine wpAnyH_take (i := 8) (oi := ({ dst := some 18, op := Op.binOp BinOp.add 3 (Operand.tmp 10) (Operand.tmp 17) 3, type := 3, pos := "cache.go:71", after := #[{ on := 0, ground := Ground.data }, { on := 7, ground := Ground.data }], guard := none } : Oper)) (v := ?_) rfl (by kernel_rfl) (by kernel_rfl) (by kernel_rfl) (fun _ _ _ h => h) (Or.inl ⟨by rfl, ?_⟩) (by assumption) ?_
          rotate_left
          · (intro w hSw; (try dsimp only at hSw); go_simp) <;> with_reducible rfl
          (try simp only [Act.put, List.setIfInBounds_toArray, List.set_cons_zero, List.set_cons_succ])
          refine wpAnyH_take (i := 9) (oi := ({ dst := some 4, op := Op.assign (Operand.tmp 18), type := 3, pos := "cache.go:71", after := #[{ on := 8, ground := Ground.data }, { on := 7, ground := Ground.chain }, { on := 0, ground := Ground.phase }, { on := 1, ground := Ground.phase }, { on := 2, ground := Ground.phase }, { on := 3, ground := Ground.phase }, { on := 4, ground := Ground.phase }, { on := 5, ground := Ground.phase }, { on := 6, ground := Ground.phase }, { on := 7, ground := Ground.phase }, { on := 8, ground := Ground.phase }], guard := none } : Oper)) (v := ?_) rfl (by kernel_rfl) (by kernel_rfl) (by kernel_rfl) (fun _ _ _ h => h) (Or.inl ⟨by rfl, ?_⟩) (by assumption) ?_
          rotate_left
          · (intro w hSw; (try dsimp only at hSw); go_simp) <;> with_reducible rfl
          (try simp only [Act.put, List.setIfInBounds_toArray, List.set_cons_zero, List.set_cons_succ])
          refine wpAnyH_done (by kernel_rfl) ?_ _
          refine NoPanic.normal ?_
          go_wp2_with fail
          go_roundw
          case rel => exact ⟨k + 1, m, by go_num, rfl, STEP.out⟩
          case measure => simp [intOf]; omega
        exact AllReadyH.nil
      exact AllReadyH.nil
    · have e : k = 7 := by omega
      subst e
      obtain ⟨cs, hb, hl, ht⟩ := hs.blk
      have h1 := M.allTo_length hg 7
      have hn := hs.nn
      have n28 : n ≤ 28 := by omega
      have i28 : (n : Int) ≤ 28 := by omega
      have RES := Lib.hid (show AllGot w (M.all f) (.returned (.slice (some ⟨ga, 0, none⟩) n 28)) wr from ⟨ga, n, rfl, hn, n28, hb.runs (by rw [M.all, ← hn]; exact ht), GA.out, hs.bel⟩)
      clear hs hb hl ht h1 hn hk
      go_wp2_with fail
      go_ret
      exact RES.out
theorem caall_any (w : World) (g : Nat) (f : M.Ky) (h : IsC w g f) : Calls Try.prog 44 #[.pointer (some ⟨g, 0, none⟩)] w (AllGot w (M.all f)) := by
  refine caall_go w (some ⟨g, 0, none⟩) f (fun k => some ⟨g, k * 8, none⟩) (fun _ => 4) h.good (fun W hW k hk => caof_in W g f (h.below hW) k hk) (fun W ga cs hW hb hga hl k hk n hn ty => ?_)
  have h4 := h.good.four k
  have hr := (h.below hW).runs k hk
  refine run_copy2 W ty ga (n * 2) cs hb (28 - n) (28 - n) ⟨g, k * 8, none⟩ (f k).length 4 (f k).length (rc (M.rows f k)) (by simp only [Nat.min_def]; split <;> omega) (by rw [rc_length, M.rows_length]) (fun j v hv => ?_) (by rw [rc_length, M.rows_length, hl]; omega) (rc_one _)
  have hpos : 0 < (M.rows f k).length := by
    rcases Nat.eq_zero_or_pos (M.rows f k).length with h0 | h0
    · rw [List.eq_nil_of_length_eq_zero h0] at hv; simp [rc_nil] at hv
    · exact h0
  obtain ⟨bl, o, e, hc⟩ := hr hpos
  injection e with e
  rw [e, Addr.add_lit]
  exact runs_cells hc j v hv
theorem run_copy_none (W : World) (ty : TypeId) (a : Option Addr) (dl dc : Nat) : (Builtin.copy_ #[29, 29] ty #[.slice a dl dc, .slice none 0 0]).run Try.prog W = .ok (goInt 0) W := by
  obtain ⟨i, hi, hz, hs, hb⟩ := info36
  cases a <;> simp [Builtin.copy_, run_underlying Try.underlying29, Builtin.lenOf, Builtin.firstCells, sizeOf, typeInfo, hi, storeCells]
theorem caall_nil (w : World) : Calls Try.prog 44 #[.pointer none] w (AllGot w []) := by
  have := caall_go w none M.empty (fun _ => none) (fun _ => 0) M.Good.empty (fun W hW k hk => caof_out W none k (.inl rfl)) (fun W ga cs hW hb hga hl k hk n hn ty => by
    rw [show M.rows M.empty k = [] from rfl, rc_nil, splice_nil, setRow_self W ga cs.toArray _ _ hb]
    exact run_copy_none W ty _ _ _)
  rw [M.all_empty] at this
  exact this
end Go.Proofs.Ytmagdhcpbofkbaa
/-
  A Cache that a call made, beside what it was handed; the document's example, by the program.
-/
namespace Go.Proofs.Ytmagdhcpbofkbaa
open Go.ChangeShapes Go.WideShapes Go.ChangeAt Go.RowKit Go.Deep
set_option linter.unusedVariables false
set_option maxRecDepth 20000

/-- A Cache that a call made, beside what it was handed. -/
structure Kp (w0 w : World) (g : Nat) (f : M.Ky) : Prop where
  has : IsC w g f
  bel : Below w0.heap.size w0 w
  old : w0.heap.size ≤ g
section
variable {w0 w w' : World} {g : Nat} {f f' : M.Ky}
theorem Kp.below (h : Kp w0 w g f) (hb : Below w.heap.size w w') : Kp w0 w' g f := ⟨h.has.below hb, below_call h.bel hb, h.old⟩
theorem Kp.grown (h : Kp w0 w g f) (hh : IsC w' g f') (hg : w.grownBy w' (some g)) : Kp w0 w' g f' := ⟨hh, h.bel.grown hg h.bel.size (fun j hj => by cases hj; exact h.old), h.old⟩
theorem Kp.other (h : Kp w0 w g f) {r : Nat} (hr : g ≠ r) (ho : w0.heap.size ≤ r) (hg : w.grownBy w' (some r)) : Kp w0 w' g f := ⟨h.has.grown hr hg, h.bel.grown hg h.bel.size (fun j hj => by cases hj; exact ho), h.old⟩
theorem Kp.drew (h : Kp w0 w g f) : Kp w0 w.drew g f := h.below (Below.refl _ _).drew
theorem Kp.drewN (h : Kp w0 w g f) (n : Nat) : Kp w0 (w.drewN n) g f := h.below (below_drewN' (Below.refl _ _) n)
theorem Kp.alloc (h : Kp w0 w g f) (o : Obj) : Kp w0 (w.alloc o) g f := h.below ((Below.refl _ _).alloc (Nat.le_refl _) _)
theorem k_new (h : Below w0.heap.size w0 w) : Calls Try.prog 23 #[] w fun e w' => ∃ g, e = .returned (.pointer (some ⟨g, 0, none⟩)) ∧ Kp w0 w' g M.empty ∧ Below w.heap.size w w' ∧ w.heap.size ≤ g := by
  refine (canew_any w).mono ?_
  rintro e w' ⟨g, rfl, hh, hb, hg⟩
  exact ⟨g, rfl, ⟨hh, below_call h hb, Nat.le_trans h.size hg⟩, hb, hg⟩
theorem k_push (h : Kp w0 w g f) (c p : Int) : Calls Try.prog 38 #[.pointer (some ⟨g, 0, none⟩), .int .i64 c, .int .i64 p] w fun e w' => e = .returned (.bool (M.pushB f c p)) ∧ Kp w0 w' g (M.pushF f c p) ∧ w.grownBy w' (some g) := by
  refine (capush_any w g f h.has c p).mono ?_
  rintro e w' ⟨rfl, hh, hg⟩
  exact ⟨rfl, h.grown hh hg, hg⟩
theorem k_pop (h : Kp w0 w g f) (c : Int) : Calls Try.prog 47 #[.pointer (some ⟨g, 0, none⟩), .int .i64 c] w fun e w' => e = .returned (.tuple #[.int .i64 (M.popV f c), .bool (M.popB f c)]) ∧ Kp w0 w' g (M.popF f c) ∧ w.grownBy w' (some g) := by
  refine (capop_any w g f h.has c).mono ?_
  rintro e w' ⟨rfl, hh, hg⟩
  exact ⟨rfl, h.grown hh hg, hg⟩
theorem k_clear (h : Kp w0 w g f) : Calls Try.prog 45 #[.pointer (some ⟨g, 0, none⟩)] w fun e w' => e = .returned (.tuple #[]) ∧ Kp w0 w' g M.empty ∧ w.grownBy w' (some g) := by
  refine (caclear_any w g f h.has).mono ?_
  rintro e w' ⟨rfl, hh, hg⟩
  exact ⟨rfl, h.grown hh hg, hg⟩
theorem k_len (h : Kp w0 w g f) (c : Int) : Calls Try.prog 56 #[.pointer (some ⟨g, 0, none⟩), .int .i64 c] w fun e w' => e = .returned (.int .i64 ((f c).length : Int)) ∧ w = w' := calen_any w g f h.has c
theorem k_pages (h : Kp w0 w g f) : Calls Try.prog 43 #[.pointer (some ⟨g, 0, none⟩)] w fun e w' => e = .returned (.int .i64 (M.sum f)) ∧ w = w' := capages_any w g f h.has
theorem k_all (h : Kp w0 w g f) : Calls Try.prog 44 #[.pointer (some ⟨g, 0, none⟩)] w (AllGot w (M.all f)) := caall_any w g f h.has
end

end Go.Proofs.Ytmagdhcpbofkbaa
