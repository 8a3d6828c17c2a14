/-
  Plain mathematics of numbers as bytes, the least byte first. It speaks of no program.
-/
import Derived.Test.YtmagdhcpbofkbaaK0
import Derived.Maps.RangeWalk
import Derived.Maps.OwnSet
import Derived.WideKeyPair
import Derived.DeepKeys4
import Derived.Laws.IdiomCopy
import Derived.Lib.SliceRun
import Derived.StillTailTactics
import Derived.Lib.MakeNoZero
import Derived.Laws.Externs
import Derived.Laws.Bits64b
import Derived.Deep.RegionHeld3
import Derived.IntWalk
namespace Go.Proofs.Ytmagdhcpbofkbaa.M

/-- The bytes of a number's rest, the least one first. -/
def enc : Nat → Nat → List UInt8
  | 0, _ => []
  | k + 1, n => UInt8.ofNat n :: enc k (n / 256)
/-- The number that bytes are. -/
def num : List UInt8 → Nat
  | [] => 0
  | b :: r => b.toNat + 256 * num r

theorem enc_length (k n : Nat) : (enc k n).length = k := by
  induction k generalizing n with
  | zero => rfl
  | succ k ih => simp [enc, ih]
theorem num_lt (l : List UInt8) : num l < 256 ^ l.length := by
  induction l with
  | nil => simp [num]
  | cons b r ih =>
    have := b.toNat_lt
    simp only [num, List.length_cons, Nat.pow_succ]
    omega
theorem num_append (a b : List UInt8) : num (a ++ b) = num a + 256 ^ a.length * num b := by
  induction a with
  | nil => simp [num]
  | cons x r ih =>
    simp only [num, List.cons_append, List.length_cons, Nat.pow_succ, ih]
    rw [Nat.mul_add, Nat.mul_comm (256 ^ r.length) 256, Nat.mul_assoc]
    omega
theorem num_enc (k n : Nat) : num (enc k n) = n % 256 ^ k := by
  induction k generalizing n with
  | zero => simp [enc, num, Nat.mod_one]
  | succ k ih =>
    simp only [enc, num, ih, UInt8.toNat_ofNat']
    have h : 256 ^ (k + 1) = 256 * 256 ^ k := by rw [Nat.pow_succ, Nat.mul_comm]
    rw [h, Nat.mod_mul]
theorem enc_num (l : List UInt8) : enc l.length (num l) = l := by
  induction l with
  | nil => rfl
  | cons b r ih =>
    have hb := b.toNat_lt
    simp only [num, List.length_cons, enc]
    have h1 : (b.toNat + 256 * num r) / 256 = num r := by omega
    rw [h1, ih]
    congr 1
    apply UInt8.toNat_inj.1
    simp only [UInt8.toNat_ofNat']
    omega
theorem enc_mod (k n : Nat) : enc k (n % 256 ^ k) = enc k n := by
  have h := enc_num (enc k n)
  rw [enc_length, num_enc] at h
  exact h
theorem enc_eq (k n m : Nat) (h : n % 256 ^ k = m % 256 ^ k) : enc k n = enc k m := by rw [← enc_mod k n, h, enc_mod]
theorem enc_get (k n i : Nat) (h : i < (enc k n).length) : (enc k n)[i] = UInt8.ofNat (n / 256 ^ i) := by
  induction k generalizing n i with
  | zero => simp [enc] at h
  | succ k ih =>
    cases i with
    | zero => simp [enc]
    | succ i =>
      simp only [enc, List.getElem_cons_succ]
      rw [ih, Nat.div_div_eq_div_mul, Nat.pow_succ, Nat.mul_comm (256 ^ i) 256]
theorem enc_succ (k n : Nat) : enc (k + 1) n = enc k n ++ [UInt8.ofNat (n / 256 ^ k)] := by
  induction k generalizing n with
  | zero => simp [enc]
  | succ k ih =>
    rw [enc, ih, enc]
    simp only [List.cons_append]
    rw [Nat.div_div_eq_div_mul, Nat.pow_succ, Nat.mul_comm (256 ^ k) 256]
theorem enc_add (i j n : Nat) : enc (i + j) n = enc i n ++ enc j (n / 256 ^ i) := by
  induction i generalizing n with
  | zero => simp [enc]
  | succ i ih =>
    rw [Nat.succ_add, enc, ih, enc]
    simp only [List.cons_append]
    rw [Nat.div_div_eq_div_mul, Nat.pow_succ, Nat.mul_comm (256 ^ i) 256]

/-- Is a number of bytes a width? -/
def wide (w : Int) : Bool := w == 1 || (w == 2 || (w == 4 || w == 8))
/-- Are there so many bytes from a place on? -/
def has (z : Nat) (at' w : Int) : Bool := wide w && (decide (0 ≤ at') && decide (at' + w ≤ (z : Int)))
/-- A list behind a number that was put. -/
def put (l : List UInt8) (a k n : Nat) : List UInt8 := l.take a ++ (enc k n ++ l.drop (a + k))
/-- The bytes of a width from a place on. -/
def seg (l : List UInt8) (a k : Nat) : List UInt8 := (l.drop a).take k

theorem wide_cases {w : Int} (h : wide w = true) : ∃ k : Nat, w = k ∧ (k = 1 ∨ k = 2 ∨ k = 4 ∨ k = 8) := by
  simp [wide] at h
  exact ⟨w.toNat, by omega, by omega⟩
theorem wide_nat {k : Nat} (h : k = 1 ∨ k = 2 ∨ k = 4 ∨ k = 8) : wide (k : Int) = true := by
  rcases h with rfl | rfl | rfl | rfl <;> rfl
theorem has_cases {z : Nat} {at' w : Int} (h : has z at' w = true) : ∃ a k : Nat, at' = a ∧ w = k ∧ (k = 1 ∨ k = 2 ∨ k = 4 ∨ k = 8) ∧ a + k ≤ z := by
  simp only [has, Bool.and_eq_true, decide_eq_true_eq] at h
  obtain ⟨k, rfl, hk⟩ := wide_cases h.1
  exact ⟨at'.toNat, k, by omega, rfl, hk, by omega⟩
theorem has_nat {z a k : Nat} (hk : k = 1 ∨ k = 2 ∨ k = 4 ∨ k = 8) (h : a + k ≤ z) : has z (a : Int) (k : Int) = true := by
  simp only [has, Bool.and_eq_true, decide_eq_true_eq]
  exact ⟨wide_nat hk, by omega, by omega⟩
theorem has_not {z a k : Nat} (h : ¬ a + k ≤ z) : has z (a : Int) (k : Int) = false := by
  rw [Bool.eq_false_iff]
  intro hh
  simp only [has, Bool.and_eq_true, decide_eq_true_eq] at hh
  omega

theorem put_length (l : List UInt8) (a k n : Nat) (h : a + k ≤ l.length) : (put l a k n).length = l.length := by
  simp [put, enc_length]; omega
theorem put_zero (l : List UInt8) (a n : Nat) : put l a 0 n = l := by simp [put, enc]
theorem put_succ (l : List UInt8) (a k n : Nat) (h : a + k < l.length) : put l a (k + 1) n = (put l a k n).set (a + k) (UInt8.ofNat (n / 256 ^ k)) := by
  unfold put
  rw [enc_succ]
  have h1 : (l.take a).length = a := by simp; omega
  rw [List.set_append_right _ _ (by omega), h1, show a + k - a = k by omega, List.set_append_right _ _ (by rw [enc_length]; exact Nat.le_refl _), enc_length, Nat.sub_self]
  rw [List.drop_eq_getElem_cons h]
  simp [Nat.add_assoc]
theorem seg_length (l : List UInt8) (a k : Nat) (h : a + k ≤ l.length) : (seg l a k).length = k := by simp [seg]; omega
theorem seg_succ (l : List UInt8) (a k : Nat) (h : a + k < l.length) : seg l a (k + 1) = seg l a k ++ [l[a + k]] := by
  unfold seg
  rw [List.take_succ_eq_append_getElem (by simp; omega)]
  simp
theorem seg_put (l : List UInt8) (a k n : Nat) (h : a + k ≤ l.length) : seg (put l a k n) a k = enc k n := by
  unfold seg put
  have h1 : (l.take a).length = a := by simp; omega
  rw [List.drop_append_of_le_length (by omega), List.drop_of_length_le (by omega), List.nil_append, List.take_append_of_le_length (by rw [enc_length]; exact Nat.le_refl _), List.take_of_length_le (by rw [enc_length]; exact Nat.le_refl _)]
theorem num_seg_succ (l : List UInt8) (a k : Nat) (h : a + k < l.length) : num (seg l a (k + 1)) = num (seg l a k) + 256 ^ k * l[a + k].toNat := by
  rw [seg_succ l a k h, num_append, seg_length l a k (by omega)]
  simp [num]
theorem num_seg_lt (l : List UInt8) (a k : Nat) (h : a + k ≤ l.length) : num (seg l a k) < 256 ^ k := by
  have := num_lt (seg l a k)
  rwa [seg_length l a k h] at this

/-- Numbers as bytes, one behind the other. -/
def bts (k : Nat) (l : List Nat) : List UInt8 := l.flatMap (enc k)
theorem bts_length (k : Nat) (l : List Nat) : (bts k l).length = l.length * k := by
  induction l with
  | nil => simp [bts]
  | cons a r ih => simp only [bts, List.flatMap_cons, List.length_append, enc_length, List.length_cons, Nat.add_mul, Nat.one_mul] at ih ⊢; omega
theorem bts_append (k : Nat) (a b : List Nat) : bts k (a ++ b) = bts k a ++ bts k b := by simp [bts]
theorem bts_one (k n : Nat) : bts k [n] = enc k n := by simp [bts]

/-- What lies in a new row when the first ones of some numbers are put. -/
def part (k : Nat) (l : List Nat) (i : Nat) : List UInt8 := bts k (l.take i) ++ List.replicate ((l.length - i) * k) 0
theorem part_length (k : Nat) (l : List Nat) (i : Nat) (h : i ≤ l.length) : (part k l i).length = l.length * k := by
  simp only [part, List.length_append, bts_length, List.length_replicate, List.length_take]
  rw [Nat.min_eq_left h, ← Nat.add_mul]
  congr 1
  omega
theorem part_zero (k : Nat) (l : List Nat) : part k l 0 = List.replicate (l.length * k) 0 := by simp [part, bts]
theorem part_all (k : Nat) (l : List Nat) : part k l l.length = bts k l := by simp [part]
theorem part_succ (k : Nat) (l : List Nat) (i : Nat) (h : i < l.length) : put (part k l i) (i * k) k l[i] = part k l (i + 1) := by
  have h1 : (bts k (l.take i)).length = i * k := by rw [bts_length, List.length_take, Nat.min_eq_left (by omega)]
  have h2 : l.length - i = (l.length - (i + 1)) + 1 := by omega
  have h3 : ∀ m : Nat, List.drop k (List.replicate ((m + 1) * k) (0 : UInt8)) = List.replicate (m * k) 0 := by
    intro m
    rw [List.drop_replicate]
    congr 1
    rw [Nat.add_mul]
    omega
  unfold put part
  rw [List.take_append_of_le_length (by omega), List.take_of_length_le (by omega), ← List.drop_drop, List.drop_append_of_le_length (by omega), List.drop_of_length_le (l := bts k (l.take i)) (by omega), List.nil_append, h2, h3,
    List.take_succ_eq_append_getElem h, bts_append, bts_one, List.append_assoc]
theorem seg_bts (k : Nat) (l : List Nat) (i : Nat) (h : i < l.length) : seg (bts k l) (i * k) k = enc k l[i] := by
  have e : l = l.take i ++ (l[i] :: l.drop (i + 1)) := by rw [List.getElem_cons_drop, List.take_append_drop]
  have h1 : (bts k (l.take i)).length = i * k := by rw [bts_length, List.length_take, Nat.min_eq_left (by omega)]
  have e2 : bts k l = bts k (l.take i) ++ (enc k l[i] ++ bts k (l.drop (i + 1))) := by
    conv => lhs; rw [e]
    rw [bts_append]
    congr 1
  unfold seg
  rw [e2, List.drop_append_of_le_length (by omega), List.drop_of_length_le (by omega), List.nil_append, List.take_append_of_le_length (by rw [enc_length]; exact Nat.le_refl _), List.take_of_length_le (by rw [enc_length]; exact Nat.le_refl _)]

/-- A number with its sign. -/
def sgn (k n : Nat) : Int := if n % 256 ^ k < 256 ^ k / 2 then (n % 256 ^ k : Nat) else (n % 256 ^ k : Nat) - (256 ^ k : Nat)

/-- All bytes turned. -/
def flip (l : List UInt8) : List UInt8 := l.map fun b => 255 - b
theorem flip_length (l : List UInt8) : (flip l).length = l.length := by simp [flip]
theorem num_flip (l : List UInt8) : num (flip l) + num l + 1 = 256 ^ l.length := by
  induction l with
  | nil => simp [flip, num]
  | cons b r ih =>
    have hb := b.toNat_lt
    have h1 : (255 - b : UInt8).toNat = 255 - b.toNat := by
      rw [UInt8.toNat_sub_of_le _ _ (by rw [UInt8.le_iff_toNat_le]; have : (255 : UInt8).toNat = 255 := rfl; omega)]
      rfl
    simp only [flip, List.map_cons, num, List.length_cons, Nat.pow_succ] at ih ⊢
    rw [h1]
    omega
theorem flip_take_succ (l : List UInt8) (i : Nat) (h : i < l.length) : flip (l.take (i + 1)) = flip (l.take i) ++ [255 - l[i]] := by
  rw [List.take_succ_eq_append_getElem h]; simp only [flip, List.map_append, List.map_cons, List.map_nil]
theorem top_byte (k n : Nat) (hk : 0 < k) : (enc k n)[k - 1]?.map (fun b => decide (b.toNat < 128)) = some (decide (n % 256 ^ k < 256 ^ k / 2)) := by
  obtain ⟨j, rfl⟩ : ∃ j, k = j + 1 := ⟨k - 1, by omega⟩
  have h0 : j < (enc (j + 1) n).length := by rw [enc_length]; omega
  rw [Nat.add_sub_cancel, List.getElem?_eq_getElem h0, enc_get]
  have hp : 0 < 256 ^ j := Nat.pow_pos (by decide)
  have e1 : 256 ^ (j + 1) / 2 = 128 * 256 ^ j := by rw [Nat.pow_succ]; omega
  have e2 : n % 256 ^ (j + 1) = n % 256 ^ j + 256 ^ j * (n / 256 ^ j % 256) := by rw [Nat.pow_succ, Nat.mod_mul]
  have e3 := Nat.mod_lt n hp
  simp only [Option.map_some, UInt8.toNat_ofNat']
  congr 1
  rw [e1, e2, decide_eq_decide]
  generalize n / 256 ^ j % 256 = q
  generalize 256 ^ j = p at *
  have : (2 : Nat) ^ 8 = 256 := rfl
  constructor
  · intro h
    have h' : q ≤ 127 := by omega
    have := Nat.mul_le_mul_left p h'
    omega
  · intro h
    rcases Nat.lt_or_ge q 128 with hq | hq
    · omega
    · have := Nat.mul_le_mul_left p hq
      omega

end Go.Proofs.Ytmagdhcpbofkbaa.M
/-
  Plain mathematics of a space of bytes: what is read and written, page by page; a log of what was stored. It speaks of no program.
-/
namespace Go.Proofs.Ytmagdhcpbofkbaa.M

/-- n bytes from a place on. -/
def rd (f : Nat → UInt8) (a n : Nat) : List UInt8 := (List.range n).map fun i => f (a + i)
/-- Bytes laid from a place on. -/
def wr (f : Nat → UInt8) (a : Nat) (l : List UInt8) : Nat → UInt8 := fun x => if h : a ≤ x ∧ x - a < l.length then l[x - a]'h.2 else f x
/-- n bytes made 0 from a place on. -/
def zr (f : Nat → UInt8) (a n : Nat) : Nat → UInt8 := fun x => if a ≤ x ∧ x - a < n then 0 else f x

theorem rd_length (f : Nat → UInt8) (a n : Nat) : (rd f a n).length = n := by simp [rd]
theorem rd_get (f : Nat → UInt8) (a n i : Nat) (h : i < (rd f a n).length) : (rd f a n)[i] = f (a + i) := by simp [rd]
theorem rd_zero (f : Nat → UInt8) (a : Nat) : rd f a 0 = [] := rfl
theorem rd_congr (f g : Nat → UInt8) (a n : Nat) (h : ∀ i, i < n → f (a + i) = g (a + i)) : rd f a n = rd g a n := by
  unfold rd
  apply List.map_congr_left
  intro i hi
  exact h i (by simpa using hi)
theorem rd_add (f : Nat → UInt8) (a m n : Nat) : rd f a (m + n) = rd f a m ++ rd f (a + m) n := by
  apply List.ext_getElem
  · simp [rd_length]
  · intro i h1 h2
    rw [rd_get]
    by_cases h : i < m
    · rw [List.getElem_append_left (by rw [rd_length]; exact h), rd_get]
    · rw [List.getElem_append_right (by rw [rd_length]; omega), rd_get, rd_length]
      congr 1
      omega
theorem rd_take (f : Nat → UInt8) (a n k : Nat) (h : k ≤ n) : (rd f a n).take k = rd f a k := by
  obtain ⟨m, rfl⟩ : ∃ m, n = k + m := ⟨n - k, by omega⟩
  rw [rd_add, List.take_append_of_le_length (by rw [rd_length]; exact Nat.le_refl _), List.take_of_length_le (by rw [rd_length]; exact Nat.le_refl _)]
theorem rd_drop (f : Nat → UInt8) (a n k : Nat) (h : k ≤ n) : (rd f a n).drop k = rd f (a + k) (n - k) := by
  obtain ⟨m, rfl⟩ : ∃ m, n = k + m := ⟨n - k, by omega⟩
  rw [rd_add, List.drop_append_of_le_length (by rw [rd_length]; exact Nat.le_refl _), List.drop_of_length_le (by rw [rd_length]; exact Nat.le_refl _), List.nil_append]
  congr 1
  omega

theorem wr_in (f : Nat → UInt8) (a : Nat) (l : List UInt8) (i : Nat) (h : i < l.length) : wr f a l (a + i) = l[i] := by
  unfold wr
  rw [dif_pos ⟨by omega, by omega⟩]
  congr 1
  omega
theorem wr_out (f : Nat → UInt8) (a : Nat) (l : List UInt8) (x : Nat) (h : x < a ∨ a + l.length ≤ x) : wr f a l x = f x := by
  unfold wr
  rw [dif_neg (by omega)]
theorem wr_nil (f : Nat → UInt8) (a : Nat) : wr f a [] = f := by
  funext x
  exact wr_out f a [] x (by simp; omega)
theorem rd_wr (f : Nat → UInt8) (a : Nat) (l : List UInt8) : rd (wr f a l) a l.length = l := by
  apply List.ext_getElem
  · rw [rd_length]
  · intro i h1 h2
    rw [rd_get, wr_in f a l i h2]
theorem rd_wr_apart (f : Nat → UInt8) (a : Nat) (l : List UInt8) (b n : Nat) (h : b + n ≤ a ∨ a + l.length ≤ b) : rd (wr f a l) b n = rd f b n :=
  rd_congr _ _ _ _ fun i hi => wr_out f a l (b + i) (by omega)
theorem wr_rd (f : Nat → UInt8) (a n : Nat) : wr f a (rd f a n) = f := by
  funext x
  by_cases h : a ≤ x ∧ x - a < n
  · obtain ⟨i, rfl⟩ : ∃ i, x = a + i := ⟨x - a, by omega⟩
    rw [wr_in f a _ i (by rw [rd_length]; omega), rd_get]
  · exact wr_out f a _ x (by rw [rd_length]; omega)
theorem wr_append (f : Nat → UInt8) (a : Nat) (l m : List UInt8) : wr f a (l ++ m) = wr (wr f a l) (a + l.length) m := by
  funext x
  by_cases h1 : a ≤ x ∧ x < a + l.length
  · obtain ⟨i, rfl⟩ : ∃ i, x = a + i := ⟨x - a, by omega⟩
    rw [wr_in f a _ i (by simp; omega), List.getElem_append_left (by omega), wr_out _ _ _ _ (by omega), wr_in f a l i (by omega)]
  · by_cases h2 : a + l.length ≤ x ∧ x < a + l.length + m.length
    · obtain ⟨i, rfl⟩ : ∃ i, x = a + l.length + i := ⟨x - (a + l.length), by omega⟩
      rw [wr_in (wr f a l) _ m i (by omega), Nat.add_assoc, wr_in f a _ (l.length + i) (by simp; omega), List.getElem_append_right (by omega)]
      congr 1
      omega
    · rw [wr_out _ _ _ _ (by simp; omega), wr_out _ _ _ _ (by omega), wr_out _ _ _ _ (by omega)]
theorem wr_comm (f : Nat → UInt8) (a : Nat) (l : List UInt8) (b : Nat) (m : List UInt8) (h : a + l.length ≤ b ∨ b + m.length ≤ a) : wr (wr f a l) b m = wr (wr f b m) a l := by
  funext x
  by_cases h1 : a ≤ x ∧ x < a + l.length
  · obtain ⟨i, rfl⟩ : ∃ i, x = a + i := ⟨x - a, by omega⟩
    rw [wr_out _ _ _ _ (by omega), wr_in f a l i (by omega), wr_in _ a l i (by omega)]
  · rw [wr_out (wr f b m) a l x (by omega)]
    by_cases h2 : b ≤ x ∧ x < b + m.length
    · obtain ⟨i, rfl⟩ : ∃ i, x = b + i := ⟨x - b, by omega⟩
      rw [wr_in _ b m i (by omega), wr_in f b m i (by omega)]
    · rw [wr_out _ _ _ _ (by omega), wr_out _ _ _ _ (by omega), wr_out _ _ _ _ (by omega)]
/-- A step of a loop that goes through bytes piece by piece. -/
theorem wr_step (f : Nat → UInt8) (a : Nat) (l : List UInt8) (d c : Nat) (h : d + c ≤ l.length) : wr (wr f a (l.take d)) (a + d) ((l.drop d).take c) = wr f a (l.take (d + c)) := by
  have e : l.take (d + c) = l.take d ++ (l.drop d).take c := by rw [List.take_add]
  rw [e, wr_append, List.length_take, Nat.min_eq_left (by omega)]
theorem zr_eq (f : Nat → UInt8) (a n : Nat) : zr f a n = wr f a (List.replicate n 0) := by
  funext x
  unfold zr
  by_cases h : a ≤ x ∧ x - a < n
  · rw [if_pos h]
    obtain ⟨i, rfl⟩ : ∃ i, x = a + i := ⟨x - a, by omega⟩
    rw [wr_in f a _ i (by simp; omega)]
    simp
  · rw [if_neg h, wr_out _ _ _ _ (by simp; omega)]
theorem zr_step (f : Nat → UInt8) (a d c : Nat) : zr (zr f a d) (a + d) c = zr f a (d + c) := by
  funext x
  unfold zr
  by_cases h1 : a + d ≤ x ∧ x - (a + d) < c
  · rw [if_pos h1, if_pos (by omega)]
  · rw [if_neg h1]
    by_cases h2 : a ≤ x ∧ x - a < d
    · rw [if_pos h2, if_pos (by omega)]
    · rw [if_neg h2, if_neg (by omega)]
theorem zr_zero (f : Nat → UInt8) (a : Nat) : zr f a 0 = f := by
  funext x
  unfold zr
  rw [if_neg (by omega)]

/-! Pages. -/
/-- The bytes that pages make: a page that isn't laid is 0. -/
def flat (pg : Nat → Option (List UInt8)) : Nat → UInt8 := fun x => ((pg (x / 4096)).bind (·[x % 4096]?)).getD 0
def setPg (pg : Nat → Option (List UInt8)) (k : Nat) (p : List UInt8) : Nat → Option (List UInt8) := fun j => if j = k then some p else pg j
/-- A piece of a list in the place of as many of its items. -/
def splice (p : List UInt8) (o : Nat) (l : List UInt8) : List UInt8 := p.take o ++ (l ++ p.drop (o + l.length))
theorem splice_length (p : List UInt8) (o : Nat) (l : List UInt8) (h : o + l.length ≤ p.length) : (splice p o l).length = p.length := by simp [splice]; omega
theorem splice_in (p : List UInt8) (o : Nat) (l : List UInt8) (i : Nat) (h : o + l.length ≤ p.length) (hi : i < l.length) : (splice p o l)[o + i]? = some l[i] := by
  have ht : (p.take o).length = o := by simp; omega
  unfold splice
  rw [List.getElem?_append_right (by omega), ht, Nat.add_sub_cancel_left, List.getElem?_append_left hi, List.getElem?_eq_getElem hi]
theorem splice_out (p : List UInt8) (o : Nat) (l : List UInt8) (x : Nat) (h : o + l.length ≤ p.length) (hx : x < o ∨ o + l.length ≤ x) : (splice p o l)[x]? = p[x]? := by
  have ht : (p.take o).length = o := by simp; omega
  unfold splice
  rcases hx with hx | hx
  · rw [List.getElem?_append_left (by omega), List.getElem?_take_of_lt hx]
  · rw [List.getElem?_append_right (by omega), List.getElem?_append_right (by omega), List.getElem?_drop]
    congr 1
    omega
theorem flat_none (pg : Nat → Option (List UInt8)) (k o : Nat) (ho : o < 4096) (h : pg k = none) : flat pg (k * 4096 + o) = 0 := by
  unfold flat
  rw [show (k * 4096 + o) / 4096 = k by omega, h]
  rfl
theorem flat_some (pg : Nat → Option (List UInt8)) (k o : Nat) (p : List UInt8) (ho : o < 4096) (h : pg k = some p) : flat pg (k * 4096 + o) = (p[o]?).getD 0 := by
  unfold flat
  rw [show (k * 4096 + o) / 4096 = k by omega, show (k * 4096 + o) % 4096 = o by omega, h]
  rfl
theorem rd_none (pg : Nat → Option (List UInt8)) (k o n : Nat) (hn : o + n ≤ 4096) (h : pg k = none) : rd (flat pg) (k * 4096 + o) n = List.replicate n 0 := by
  apply List.ext_getElem
  · simp [rd_length]
  · intro i h1 h2
    rw [rd_length] at h1
    rw [rd_get, Nat.add_assoc, flat_none pg k (o + i) (by omega) h]
    simp
theorem rd_some (pg : Nat → Option (List UInt8)) (k o n : Nat) (p : List UInt8) (hp : p.length = 4096) (hn : o + n ≤ 4096) (h : pg k = some p) : rd (flat pg) (k * 4096 + o) n = (p.drop o).take n := by
  apply List.ext_getElem
  · simp [rd_length]; omega
  · intro i h1 h2
    rw [rd_length] at h1
    rw [rd_get, Nat.add_assoc, flat_some pg k (o + i) p (by omega) h, List.getElem?_eq_getElem (by omega)]
    simp
/-- A piece of one page is written: that page alone is another one. -/
theorem flat_wr (pg : Nat → Option (List UInt8)) (k o : Nat) (p l : List UInt8) (hp : p.length = 4096) (hl : o + l.length ≤ 4096) (h : pg k = some p ∨ pg k = none ∧ p = List.replicate 4096 0) :
    flat (setPg pg k (splice p o l)) = wr (flat pg) (k * 4096 + o) l := by
  have hold : ∀ y, y < 4096 → (p[y]?).getD 0 = flat pg (k * 4096 + y) := by
    intro y hy
    rcases h with h | ⟨h, rfl⟩
    · rw [flat_some pg k y p hy h]
    · rw [flat_none pg k y hy h, List.getElem?_replicate_of_lt hy]
      rfl
  funext x
  by_cases hx : x / 4096 = k
  · obtain ⟨y, hy, rfl⟩ : ∃ y, y < 4096 ∧ x = k * 4096 + y := ⟨x % 4096, by omega, by omega⟩
    rw [flat_some (setPg pg k (splice p o l)) k y (splice p o l) hy (by simp [setPg])]
    by_cases hin : o ≤ y ∧ y < o + l.length
    · obtain ⟨i, rfl⟩ : ∃ i, y = o + i := ⟨y - o, by omega⟩
      rw [splice_in p o l i (by omega) (by omega), ← Nat.add_assoc, wr_in _ _ l i (by omega)]
      rfl
    · rw [splice_out p o l y (by omega) (by omega), wr_out _ _ _ _ (by omega), hold y hy]
  · rw [wr_out _ _ _ _ (by omega)]
    unfold flat setPg
    rw [if_neg hx]
theorem flat_zr_none (pg : Nat → Option (List UInt8)) (k o n : Nat) (hn : o + n ≤ 4096) (h : pg k = none) : zr (flat pg) (k * 4096 + o) n = flat pg := by
  funext x
  unfold zr
  split
  · next hx =>
    obtain ⟨i, rfl⟩ : ∃ i, x = k * 4096 + (o + i) := ⟨x - (k * 4096 + o), by omega⟩
    rw [flat_none pg k (o + i) (by omega) h]
  · rfl
theorem flat_empty : flat (fun _ => none) = fun _ => 0 := by
  funext x
  rfl
theorem setPg_same (pg : Nat → Option (List UInt8)) (k : Nat) (p : List UInt8) : setPg pg k p k = some p := by simp [setPg]
theorem setPg_other (pg : Nat → Option (List UInt8)) (k j : Nat) (p : List UInt8) (h : j ≠ k) : setPg pg k p j = pg j := by simp [setPg, h]

/-! What is touched. -/
def touched (a n : Nat) : Nat := if n = 0 then 1 else (a + n - 1) / 4096 - a / 4096 + 1
theorem touched_pos (a n : Nat) : 1 ≤ touched a n := by unfold touched; split <;> omega
theorem touched_one (a n : Nat) : touched a n = 1 ↔ a % 4096 + n ≤ 4096 := by
  unfold touched
  split <;> omega
theorem touched_le (a n : Nat) : touched a n ≤ n / 4096 + 2 := by unfold touched; split <;> omega

/-! A log of what was stored. -/
structure Ent where
  at' : Nat
  n : Nat
  data : List UInt8
  zero : Bool
def Ent.has (e : Ent) (x : Nat) : Bool := decide (e.at' ≤ x) && decide (x - e.at' < e.n)
def Ent.byte (e : Ent) (x : Nat) : UInt8 := if e.zero = true then 0 else (e.data[x - e.at']?).getD 0
/-- The byte at a place, of what was stored last ahead of a number of entries. -/
def byteUp (log : List Ent) : Nat → Nat → UInt8
  | 0, _ => 0
  | k + 1, x => match log[k]? with
    | some e => if e.has x = true then e.byte x else byteUp log k x
    | none => byteUp log k x
def byteAt (log : List Ent) (x : Nat) : UInt8 := byteUp log log.length x
theorem byteUp_append (log : List Ent) (e : Ent) (k x : Nat) (h : k ≤ log.length) : byteUp (log ++ [e]) k x = byteUp log k x := by
  induction k with
  | zero => rfl
  | succ k ih =>
    simp only [byteUp]
    rw [List.getElem?_append_left (by omega), ih (by omega)]
theorem byteAt_snoc (log : List Ent) (e : Ent) (x : Nat) : byteAt (log ++ [e]) x = if e.has x = true then e.byte x else byteAt log x := by
  unfold byteAt
  rw [List.length_append, List.length_singleton]
  simp only [byteUp]
  rw [List.getElem?_append_right (Nat.le_refl _), Nat.sub_self, byteUp_append log e _ x (Nat.le_refl _)]
  rfl
theorem byteAt_store (log : List Ent) (a : Nat) (l : List UInt8) : byteAt (log ++ [⟨a, l.length, l, false⟩]) = wr (byteAt log) a l := by
  funext x
  rw [byteAt_snoc]
  by_cases h : a ≤ x ∧ x - a < l.length
  · rw [if_pos (by simp [Ent.has, h])]
    obtain ⟨i, rfl⟩ : ∃ i, x = a + i := ⟨x - a, by omega⟩
    rw [wr_in _ a l i (by omega)]
    have hi : i < l.length := by omega
    simp [Ent.byte, hi]
  · rw [if_neg (by simp only [Ent.has, Bool.and_eq_true, decide_eq_true_eq]; exact h), wr_out _ _ _ _ (by omega)]
theorem byteAt_zero (log : List Ent) (a n : Nat) : byteAt (log ++ [⟨a, n, [], true⟩]) = zr (byteAt log) a n := by
  funext x
  rw [byteAt_snoc]
  unfold zr
  by_cases h : a ≤ x ∧ x - a < n
  · rw [if_pos (by simp [Ent.has, h]), if_pos h]
    simp [Ent.byte]
  · rw [if_neg (by simp only [Ent.has, Bool.and_eq_true, decide_eq_true_eq]; exact h), if_neg h]
theorem byteAt_nil : byteAt [] = fun _ => 0 := by
  funext x
  rfl

end Go.Proofs.Ytmagdhcpbofkbaa.M
/-
  Plain mathematics of bytes that are laid several times. It speaks of no program.
-/
namespace Go.Proofs.Ytmagdhcpbofkbaa.M

/-- Bytes, so often, one behind the other. -/
def rep (b : List UInt8) (t : Nat) : List UInt8 := (List.replicate t b).flatten
theorem rep_zero (b : List UInt8) : rep b 0 = [] := rfl
theorem rep_succ (b : List UInt8) (t : Nat) : rep b (t + 1) = b ++ rep b t := by simp [rep, List.replicate_succ]
theorem rep_one (b : List UInt8) : rep b 1 = b := by rw [rep_succ, rep_zero, List.append_nil]
theorem rep_length (b : List UInt8) (t : Nat) : (rep b t).length = t * b.length := by
  induction t with
  | zero => simp [rep]
  | succ t ih => rw [rep_succ, List.length_append, ih, Nat.succ_mul]; omega
theorem rep_at (b : List UInt8) (t i : Nat) (h : i < t * b.length) : (rep b t)[i]? = b[i % b.length]? := by
  induction t generalizing i with
  | zero => simp at h
  | succ t ih =>
    rw [rep_succ]
    rcases Nat.lt_or_ge i b.length with hi | hi
    · rw [List.getElem?_append_left hi, Nat.mod_eq_of_lt hi]
    · rw [List.getElem?_append_right hi, ih (i - b.length) (by rw [Nat.succ_mul] at h; omega), ← Nat.mod_eq_sub_mod hi]
theorem rep_shift (b : List UInt8) (t j c : Nat) (hd : b.length ∣ j) (h : j + c ≤ t * b.length) : ((rep b t).drop j).take c = (rep b t).take c := by
  apply List.ext_getElem?
  intro i
  by_cases hi : i < c
  · rw [List.getElem?_take_of_lt hi, List.getElem?_take_of_lt hi, List.getElem?_drop, rep_at _ _ _ (by omega), rep_at _ _ _ (by omega)]
    obtain ⟨q, rfl⟩ := hd
    rw [Nat.mul_add_mod]
  · rw [List.getElem?_eq_none (by simp; omega), List.getElem?_eq_none (by simp; omega)]
/-- A step of what is laid from the front, by what was laid. -/
theorem rep_step (b : List UInt8) (t j c : Nat) (hd : b.length ∣ j) (h : j + c ≤ t * b.length) (hc : c ≤ j) : (rep b t).take j ++ ((rep b t).take j).take c = (rep b t).take (j + c) := by
  rw [List.take_add, List.take_take, Nat.min_eq_left hc, rep_shift b t j c hd h]
theorem seg_rep (b : List UInt8) (t i : Nat) (h : i < t) : ((rep b t).drop (i * b.length)).take b.length = b := by
  have hm : i * b.length + b.length ≤ t * b.length := by rw [← Nat.succ_mul]; exact Nat.mul_le_mul_right _ h
  rw [rep_shift b t _ _ ⟨i, Nat.mul_comm _ _⟩ hm]
  obtain ⟨s, rfl⟩ : ∃ s, t = s + 1 := ⟨t - 1, by omega⟩
  rw [rep_succ, List.take_append_of_le_length (Nat.le_refl _), List.take_length]
theorem rd_rep (f : Nat → UInt8) (a : Nat) (b : List UInt8) (t i : Nat) (h : i < t) : rd (wr f a (rep b t)) (a + i * b.length) b.length = b := by
  have hm : i * b.length + b.length ≤ t * b.length := by rw [← Nat.succ_mul]; exact Nat.mul_le_mul_right _ h
  have h1 := rd_wr f a (rep b t)
  rw [rep_length] at h1
  have h2 := congrArg (fun l => (List.drop (i * b.length) l).take b.length) h1
  simp only [seg_rep b t i h] at h2
  rw [rd_drop _ _ _ _ (by omega), rd_take _ _ _ _ (by omega)] at h2
  exact h2

end Go.Proofs.Ytmagdhcpbofkbaa.M
/-
  Headers as bytes.
-/
namespace Go.Proofs.Ytmagdhcpbofkbaa.M

/-- What each header begins with. -/
def mark : List UInt8 := [115, 116, 101, 97, 100, 105, 110, 103]
/-- A header's bytes. -/
def hd (p k o n : Nat) : List UInt8 := mark ++ (enc 4 p ++ (enc 4 k ++ (enc 8 o ++ enc 8 n)))
theorem mark_length : mark.length = 8 := rfl
theorem hd_length (p k o n : Nat) : (hd p k o n).length = 32 := by simp [hd, enc_length, mark]
/-- May a header tell so? -/
def right (p k : Int) : Bool := decide (1 ≤ p) && (decide (p ≤ 1048576) && (decide (0 ≤ k) && decide (k ≤ 255)))
theorem right_iff (p k : Int) : right p k = true ↔ 1 ≤ p ∧ p ≤ 1048576 ∧ 0 ≤ k ∧ k ≤ 255 := by simp [right]
theorem right_not (p k : Int) : right p k = false ↔ ¬ (1 ≤ p ∧ p ≤ 1048576 ∧ 0 ≤ k ∧ k ≤ 255) := by
  rw [← right_iff, Bool.not_eq_true]
/-- What 32 bytes tell. -/
def hP (b : List UInt8) : Nat := num (seg b 8 4)
def hK (b : List UInt8) : Nat := num (seg b 12 4)
def hO (b : List UInt8) : Nat := num (seg b 16 8)
def hN (b : List UInt8) : Nat := num (seg b 24 8)
/-- Are they a header's? -/
def isH (b : List UInt8) : Bool := decide (b.take 8 = mark) && right (hP b : Nat) (hK b : Nat)

theorem hP_lt (b : List UInt8) (h : b.length = 32) : hP b < 4294967296 := by
  have := num_seg_lt b 8 4 (by omega); simpa [hP] using this
theorem hK_lt (b : List UInt8) (h : b.length = 32) : hK b < 4294967296 := by
  have := num_seg_lt b 12 4 (by omega); simpa [hK] using this
theorem hO_lt (b : List UInt8) (h : b.length = 32) : hO b < 18446744073709551616 := by
  have := num_seg_lt b 16 8 (by omega); simpa [hO] using this
theorem hN_lt (b : List UInt8) (h : b.length = 32) : hN b < 18446744073709551616 := by
  have := num_seg_lt b 24 8 (by omega); simpa [hN] using this

theorem seg_app (a b : List UInt8) (i k : Nat) (h : a.length ≤ i) : seg (a ++ b) i k = seg b (i - a.length) k := by
  unfold seg
  rw [List.drop_append, List.drop_of_length_le h, List.nil_append]
theorem seg_head (a b : List UInt8) (k : Nat) (h : a.length = k) : seg (a ++ b) 0 k = a := by
  unfold seg
  rw [List.drop_zero, List.take_append_of_le_length (by omega), List.take_of_length_le (by omega)]
theorem seg_all (a : List UInt8) (k : Nat) (h : a.length = k) : seg a 0 k = a := by
  unfold seg
  rw [List.drop_zero, List.take_of_length_le (by omega)]
section
variable (p k o n : Nat)
theorem take_hd : (hd p k o n).take 8 = mark := by
  unfold hd
  rw [List.take_append_of_le_length (by rw [mark_length]; omega)]
  rfl
theorem seg_hd1 : seg (hd p k o n) 8 4 = enc 4 p := by
  unfold hd
  rw [seg_app _ _ _ _ (by rw [mark_length]; omega), mark_length]
  exact seg_head _ _ _ (enc_length _ _)
theorem seg_hd2 : seg (hd p k o n) 12 4 = enc 4 k := by
  unfold hd
  rw [seg_app _ _ _ _ (by rw [mark_length]; omega), mark_length, seg_app _ _ _ _ (by rw [enc_length]; omega), enc_length]
  exact seg_head _ _ _ (enc_length _ _)
theorem seg_hd3 : seg (hd p k o n) 16 8 = enc 8 o := by
  unfold hd
  rw [seg_app _ _ _ _ (by rw [mark_length]; omega), mark_length, seg_app _ _ _ _ (by rw [enc_length]; omega), enc_length, seg_app _ _ _ _ (by rw [enc_length]; omega), enc_length]
  exact seg_head _ _ _ (enc_length _ _)
theorem seg_hd4 : seg (hd p k o n) 24 8 = enc 8 n := by
  unfold hd
  rw [seg_app _ _ _ _ (by rw [mark_length]; omega), mark_length, seg_app _ _ _ _ (by rw [enc_length]; omega), enc_length, seg_app _ _ _ _ (by rw [enc_length]; omega), enc_length, seg_app _ _ _ _ (by rw [enc_length]; omega), enc_length]
  exact seg_all _ _ (enc_length _ _)
end
theorem hP_hd (p k o n : Nat) (h : p < 4294967296) : hP (hd p k o n) = p := by
  unfold hP; rw [seg_hd1, num_enc]; exact Nat.mod_eq_of_lt (by simpa using h)
theorem hK_hd (p k o n : Nat) (h : k < 4294967296) : hK (hd p k o n) = k := by
  unfold hK; rw [seg_hd2, num_enc]; exact Nat.mod_eq_of_lt (by simpa using h)
theorem hO_hd (p k o n : Nat) (h : o < 18446744073709551616) : hO (hd p k o n) = o := by
  unfold hO; rw [seg_hd3, num_enc]; exact Nat.mod_eq_of_lt (by simpa using h)
theorem hN_hd (p k o n : Nat) (h : n < 18446744073709551616) : hN (hd p k o n) = n := by
  unfold hN; rw [seg_hd4, num_enc]; exact Nat.mod_eq_of_lt (by simpa using h)
theorem isH_hd (p k o n : Nat) (h : right p k = true) : isH (hd p k o n) = true := by
  have h' := (right_iff _ _).1 h
  unfold isH
  rw [take_hd, hP_hd _ _ _ _ (by omega), hK_hd _ _ _ _ (by omega), h]
  simp
/-- The first 24 bytes of a header are those of what it tells. -/
theorem hd_of (b : List UInt8) (hb : b.length = 32) (h : b.take 8 = mark) (m : Nat) : hd (hP b) (hK b) (hO b) m = b.take 24 ++ enc 8 m := by
  have e1 : enc 4 (hP b) = seg b 8 4 := by
    have := enc_num (seg b 8 4)
    rw [seg_length b 8 4 (by omega)] at this
    exact this
  have e2 : enc 4 (hK b) = seg b 12 4 := by
    have := enc_num (seg b 12 4)
    rw [seg_length b 12 4 (by omega)] at this
    exact this
  have e3 : enc 8 (hO b) = seg b 16 8 := by
    have := enc_num (seg b 16 8)
    rw [seg_length b 16 8 (by omega)] at this
    exact this
  have t : b.take 24 = mark ++ (seg b 8 4 ++ (seg b 12 4 ++ seg b 16 8)) := by
    rw [← h]
    have s1 : b.take 24 = b.take (8 + (4 + (4 + 8))) := rfl
    rw [s1, List.take_add, List.take_add, List.take_add]
    simp [seg, List.drop_drop]
  unfold hd
  rw [e1, e2, e3, t]
  simp only [List.append_assoc]
theorem hd_back (b : List UInt8) (hb : b.length = 32) (h : b.take 8 = mark) : hd (hP b) (hK b) (hO b) (hN b) = b := by
  have e4 : enc 8 (hN b) = seg b 24 8 := by
    have := enc_num (seg b 24 8)
    rw [seg_length b 24 8 (by omega)] at this
    exact this
  rw [hd_of b hb h, e4, show seg b 24 8 = b.drop 24 from List.take_of_length_le (by simp; omega)]
  exact List.take_append_drop _ _
theorem isH_mark {b : List UInt8} (h : isH b = true) : b.take 8 = mark := by
  unfold isH at h
  simp only [Bool.and_eq_true, decide_eq_true_eq] at h
  exact h.1
theorem isH_right {b : List UInt8} (h : isH b = true) : right (hP b : Nat) (hK b : Nat) = true := by
  unfold isH at h
  simp only [Bool.and_eq_true] at h
  exact h.2
/-- A header linked, laid as a whole or by its last bytes. -/
theorem wr_link (f : Nat → UInt8) (a m : Nat) (h : isH (rd f a 32) = true) : wr f a (hd (hP (rd f a 32)) (hK (rd f a 32)) (hO (rd f a 32)) m) = wr f (a + 24) (enc 8 m) := by
  rw [hd_of _ (rd_length _ _ _) (isH_mark h), rd_take _ _ _ _ (by omega), wr_append, wr_rd, rd_length]
/-- What is read behind a link. -/
theorem rd_link (f : Nat → UInt8) (a p k o n m : Nat) (h : rd f a 32 = hd p k o n) : rd (wr f (a + 24) (enc 8 m)) a 32 = hd p k o m := by
  have e : rd (wr f (a + 24) (enc 8 m)) a (24 + 8) = rd (wr f (a + 24) (enc 8 m)) a 24 ++ rd (wr f (a + 24) (enc 8 m)) (a + 24) 8 := rd_add _ _ _ _
  rw [show (32 : Nat) = 24 + 8 from rfl, e, rd_wr_apart _ _ _ _ _ (Or.inl (by omega))]
  have e2 : rd (wr f (a + 24) (enc 8 m)) (a + 24) 8 = enc 8 m := by
    have := rd_wr f (a + 24) (enc 8 m)
    rw [enc_length] at this
    exact this
  have e3 : rd f a 24 = (hd p k o n).take 24 := by rw [← h, rd_take _ _ _ _ (by omega)]
  rw [e2, e3]
  have h2 : (hd p k o n).take 24 = mark ++ (enc 4 p ++ (enc 4 k ++ enc 8 o)) := by
    have : hd p k o n = (mark ++ (enc 4 p ++ (enc 4 k ++ enc 8 o))) ++ enc 8 n := by unfold hd; simp only [List.append_assoc]
    rw [this, List.take_append_of_le_length (by simp [enc_length, mark]), List.take_of_length_le (by simp [enc_length, mark])]
  rw [h2]
  unfold hd
  simp only [List.append_assoc]
theorem rd_hd (f : Nat → UInt8) (a p k o n : Nat) : rd (wr f a (hd p k o n)) a 32 = hd p k o n := by
  have := rd_wr f a (hd p k o n)
  rw [hd_length] at this
  exact this
theorem rd_clear (f : Nat → UInt8) (a : Nat) : rd (zr f a 32) a 32 = List.replicate 32 0 := by
  have := rd_wr f a (List.replicate 32 0)
  rw [List.length_replicate] at this
  rw [zr_eq]
  exact this
theorem isH_other {b : List UInt8} (h : b.take 8 ≠ mark) : isH b = false := by
  unfold isH
  simp [h]
theorem isH_zero : isH (List.replicate 32 0) = false := isH_other (by decide)
theorem rd_zr_apart (f : Nat → UInt8) (a c b n : Nat) (h : b + n ≤ a ∨ a + c ≤ b) : rd (zr f a c) b n = rd f b n := by
  rw [zr_eq]
  exact rd_wr_apart _ _ _ _ _ (by rw [List.length_replicate]; exact h)
end Go.Proofs.Ytmagdhcpbofkbaa.M
/-
  Slices of bytes and strings: conversions, cuts, what is made.
-/
namespace Go.Proofs.Ytmagdhcpbofkbaa
open Go.ChangeShapes Go.WideShapes Go.ChangeAt Go.RowKit
set_option linter.unusedVariables false

theorem conv_str (W : World) (A : Option Addr) (l : List UInt8) (c : Nat) (h : Lies W A (u8s l)) : (convert 22 9 (.slice A l.length c)).run Try.prog W = .ok (.string ⟨l.toArray⟩) W := by
  rcases Nat.eq_zero_or_pos l.length with h0 | h0
  · have : l = [] := List.eq_nil_of_length_eq_zero h0
    subst this
    rw [show ([] : List UInt8).length = 0 from rfl, run_convert_bytes_string W 22 9 5 A 0 c Try.underlying22 Try.underlying5 Try.underlying9]
    cases A with
    | none => rfl
    | some a =>
      have := run_convert_bytes_back (P := Try.prog) W 22 9 5 a c [] Try.underlying22 Try.underlying5 Try.underlying9 (fun j hj => absurd hj (by simp))
      rw [show ([] : List UInt8).length = 0 from rfl, run_convert_bytes_string W 22 9 5 (some a) 0 c Try.underlying22 Try.underlying5 Try.underlying9] at this
      exact this
  · obtain ⟨ad, rfl, hc⟩ := h (by rw [u8s_length]; exact h0)
    refine run_convert_bytes_back W 22 9 5 ad c l Try.underlying22 Try.underlying5 Try.underlying9 fun j hj => ?_
    have := hc j (by rw [u8s_length]; exact hj)
    simpa only [u8s, List.getElem_map] using this
theorem conv_at (W : World) (A : Option Addr) (z : Nat) (l : List UInt8) (c : Nat) (ez : z = l.length) (h : Lies W A (u8s l)) : (convert 22 9 (.slice A z c)).run Try.prog W = .ok (.string ⟨l.toArray⟩) W := by
  subst ez
  exact conv_str W A l c h
theorem conv_one (W : World) (v : Int) (b : UInt8) (hv : v = (b.toNat : Int)) :
    (convert 22 9 (.slice (some ⟨W.heap.size, 0, none⟩) 1 1)).run Try.prog (W.alloc (.cells #[.int .u8 v] 5)) = .ok (.string ⟨#[b]⟩) (W.alloc (.cells #[.int .u8 v] 5)) := by
  subst hv
  refine conv_str _ (some ⟨W.heap.size, 0, none⟩) [b] 1 fun _ => ⟨_, rfl, fun j hj => ?_⟩
  obtain rfl : j = 0 := by simp [u8s] at hj; omega
  show (W.alloc _).cell? ⟨W.heap.size, 0, none⟩ = _
  rw [World.cell?_alloc_mark]
  rfl
theorem slice_to (l p : List UInt8) (a : Nat) (ha : a ≤ l.length) (hl : l.length ≤ 140737488355328) (hp : p = l.take a) (W : World) :
    (Instr.slice 9 (.string ⟨l.toArray⟩) none (some (.int .i64 (a : Int))) none).run Try.prog W = .ok (.string ⟨p.toArray⟩) W := by
  subst hp
  have hsz : (ByteArray.mk l.toArray).size = l.length := by simp [ByteArray.size]
  rw [run_slice_string_to_if _ _ _ _ _ Try.underlying9, if_pos ⟨by omega, by rw [hsz]; omega⟩, Int.toNat_natCast, ByteArray.extract_mk]
  rfl
theorem slice_from (l p : List UInt8) (a : Nat) (x : Int) (hx : x = a) (ha : a ≤ l.length) (hl : l.length ≤ 140737488355328) (hp : p = l.drop a) (W : World) :
    (Instr.slice 9 (.string ⟨l.toArray⟩) (some (.int .i64 x)) none none).run Try.prog W = .ok (.string ⟨p.toArray⟩) W := by
  subst hp hx
  have hsz : (ByteArray.mk l.toArray).size = l.length := by simp [ByteArray.size]
  rw [run_slice_string_from_if _ _ _ _ _ Try.underlying9, if_pos ⟨by omega, by rw [hsz]; omega⟩, Int.toNat_natCast, hsz, ByteArray.extract_mk, List.take_of_length_le (by simp)]
theorem index_str (l : List UInt8) (j : Nat) (h : j < l.length) (x : Int) (hx : x = j) (W : World) :
    (Instr.index 9 (.string ⟨l.toArray⟩) (.int .i64 x)).run Try.prog W = .ok (.int .u8 (l[j].toNat : Int)) W := by
  subst hx
  rw [run_index_string _ _ _ _ _ Try.underlying9]
  have hsz : (ByteArray.mk l.toArray).size = l.length := by simp [ByteArray.size]
  rw [dif_pos ⟨by omega, by rw [hsz]; omega⟩]
  rfl
theorem make22 (z : Nat) (x : Int) (hx : x = z) (h : z ≤ 140737488355328) (W : World) :
    (Instr.makeSlice 22 (.int .i64 x) (.int .i64 x)).run Try.prog W = .ok (.slice (some ⟨W.heap.size, 0, none⟩) z z) (W.alloc (.cells (madeCells #[.int .u8 0] z) 5)) := by
  subst hx
  exact run_make_row' 22 5 (.int .u8 0) 1 Try.underlying22 (by kernel_rfl) rfl .i64 .i64 z (by omega) (by omega) W
theorem own_made (z : Nat) (W : World) : Own (W.alloc (.cells (madeCells #[.int .u8 0] z) 5)) W.heap.size (List.replicate z 0) := by
  have hl : (madeCells #[Value.int .u8 0] z).toList = List.replicate z (.int .u8 0) := toList_madeCells_one _ _
  refine ⟨fun j hj => ?_, fun j hj => ?_⟩
  · rw [World.cell?_alloc_mark, ← Array.getElem?_toList, hl]
    simp at hj ⊢
    simp [hj]
  · rw [World.frozen?_alloc_mark]
    simp
theorem own_lit (W : World) (l : List UInt8) : Own (W.alloc (.cells (u8s l).toArray 5)) W.heap.size l := by
  refine ⟨fun j hj => ?_, fun j hj => ?_⟩
  · rw [World.cell?_alloc_mark]
    simp [u8s, hj]
  · rw [World.frozen?_alloc_mark]
    simp
/-- '[]byte(s)': a new row of one's own. -/
theorem to_bytes (W : World) (l : List UInt8) : ∃ c W', (convert 9 22 (.string ⟨l.toArray⟩)).run Try.prog W = .ok (.slice (some ⟨W.heap.size, 0, none⟩) l.length c) W' ∧ Own W' W.heap.size l ∧ Below W.heap.size W W' ∧ W.heap.size < W'.heap.size := by
  have hs : (ByteArray.mk l.toArray).size = l.length := by simp [ByteArray.size]
  refine ⟨_, _, by rw [run_bytes_of_string W 9 22 5 _ Try.underlying9 Try.underlying22 Try.underlying5, hs], ⟨fun j hj => ?_, fun j hj => ?_⟩, (Below.refl _ _).drew.alloc (Nat.le_refl _) _, by show W.heap.size < (World.alloc _ _).heap.size; simp⟩
  · show (World.alloc W.drew _).cell? ⟨W.drew.heap.size, j, none⟩ = _
    rw [World.cell?_alloc_mark, bytesRow_at _ _ _ (by simpa using hj)]
    simp
  · show (World.alloc W.drew _).frozen? ⟨W.drew.heap.size, j, none⟩ = _
    rw [World.frozen?_alloc_mark]
    have : j < (bytesRow (ByteArray.mk l.toArray) (grownCap W l.length 0 5)).size := by simp [bytesRow]; omega
    simp only [Bool.and_eq_false_imp, decide_eq_true_eq, decide_eq_false_iff_not]
    omega
theorem to_bytes_cap (W : World) (l : List UInt8) : ∃ c W', (convert 9 22 (.string ⟨l.toArray⟩)).run Try.prog W = .ok (.slice (some ⟨W.heap.size, 0, none⟩) l.length c) W' ∧ Own W' W.heap.size l ∧ Below W.heap.size W W' ∧ W.heap.size < W'.heap.size ∧ l.length ≤ c := by
  obtain ⟨c, W', h1, h2⟩ := to_bytes W l
  have hs : (ByteArray.mk l.toArray).size = l.length := by simp [ByteArray.size]
  refine ⟨c, W', h1, h2.1, h2.2.1, h2.2.2, ?_⟩
  rw [run_bytes_of_string W 9 22 5 _ Try.underlying9 Try.underlying22 Try.underlying5, hs] at h1
  injection h1 with h1 _
  injection h1 with _ _ h1
  rw [← h1]
  exact grownCap_ge _ _ _ _
theorem size5 (W : World) : (Go.sizeOf 5).run Try.prog W = .ok 1 W := by
  obtain ⟨i0, hi0, hz0, hz1, hz2⟩ := info_parts (P := Try.prog) (e := 5) (z := .int .u8 0) (size := 1) (bytes := 1) (by kernel_rfl)
  simp [Go.sizeOf, typeInfo, hi0, hz1]
theorem elem22 : Try.prog.elem 22 = 5 := by kernel_rfl
theorem und22 : Try.prog.underlying 22 = some (.slice (Try.prog.elem 22)) := by rw [elem22]; exact Try.underlying22
/-- 'b[:i]'. -/
theorem cut_to (A : Option Addr) (n cap i : Nat) (x : Int) (hx : x = i) (hi : i ≤ cap) : ∃ A' c', (∀ W, (Instr.slice 22 (.slice A n cap) none (some (.int .i64 x)) none).run Try.prog W = .ok (.slice A' i c') W) ∧
    ∀ (W : World) (xs : List Value), Lies W A xs → Lies W A' (xs.take i) := by
  subst hx
  refine ⟨if cap = 0 then A else A.map (·.add (0 * 1)), cap, fun W => by rw [run_slice_h W 22 A n cap und22 .i64 i (by omega) (by omega), elem22, size5]; simp only [Result.andThen_ok, sliced, Int.toNat_natCast, Nat.sub_zero], fun W xs h hn => ?_⟩
  have hl : 0 < xs.length := by simp at hn; omega
  obtain ⟨ad, rfl, hc⟩ := h hl
  refine ⟨ad, by split <;> simp [add_zero'], fun j hj => ?_⟩
  rw [hc j (by simp at hj; omega)]
  simp
/-- 'b[i:]'. -/
theorem cut_from (A : Option Addr) (n cap i : Nat) (x : Int) (hx : x = i) (hi : i ≤ n) (hn : n ≤ cap) : ∃ A' c', (∀ W, (Instr.slice 22 (.slice A n cap) (some (.int .i64 x)) none none).run Try.prog W = .ok (.slice A' (n - i) c') W) ∧
    ∀ (W : World) (xs : List Value), xs.length = n → Lies W A xs → Lies W A' (xs.drop i) := by
  subst hx
  refine ⟨if cap = i then A else A.map (·.add (i * 1)), cap - i, fun W => by rw [run_slice_l W 22 A n cap und22 .i64 i (by omega) (by omega), elem22, size5]; simp only [Result.andThen_ok, sliced, Int.toNat_natCast], fun W xs hxn h hn => ?_⟩
  have hl : i < xs.length := by simp at hn; omega
  obtain ⟨ad, rfl, hc⟩ := h (by omega)
  refine ⟨ad.add i, by rw [if_neg (by omega)]; simp, fun j hj => ?_⟩
  rw [add_add, hc (i + j) (by simp at hj; omega)]
  simp
end Go.Proofs.Ytmagdhcpbofkbaa
/-
  What each function of package words comes to.
-/
namespace Go.Proofs.Ytmagdhcpbofkbaa
open Go.ChangeShapes Go.WideShapes Go.ChangeAt Go.RowKit
set_option linter.unusedVariables false

theorem isWidth_any (x : Int) (w : World) : Calls Try.prog 84 #[.int .i64 x] w fun e w' => e = .returned (.bool (M.wide x)) ∧ w = w' := by
  go_enter Try.func84, Try.ntmps84
  go_wp2
  all_goals go_ret
  all_goals exact ⟨retB (by simp [M.wide, Bool.or_assoc, *]), rfl⟩
theorem room_any (z : Nat) (x y : Int) (hz : z ≤ 140737488355328) (hx : -9223372036854775808 ≤ x ∧ x ≤ 9223372036854775807) (w : World) :
    Calls Try.prog 81 #[.int .i64 z, .int .i64 x, .int .i64 y] w fun e w' => e = .returned (.bool (M.has z x y)) ∧ w = w' := by
  by_cases hw : M.wide y = true
  · obtain ⟨k, rfl, hk⟩ := M.wide_cases hw
    have hk8 : k ≤ 8 := by omega
    have HK := Lib.hid hk; clear hk
    by_cases h0 : 0 ≤ x
    · go_enter Try.func81, Try.ntmps81
      go_wp2_with (go_at_call 84; refine (isWidth_any _ _).mono ?_; rintro e w' ⟨rfl, rfl⟩)
      all_goals go_ret
      all_goals exact ⟨retB (by simp only [M.has, hw, h0, decide_true, Bool.true_and]; rw [decide_eq_decide]; omega), rfl⟩
    · have hd : decide (0 ≤ x) = false := by simpa using h0
      go_enter Try.func81, Try.ntmps81
      go_wp2_with (go_at_call 84; refine (isWidth_any _ _).mono ?_; rintro e w' ⟨rfl, rfl⟩)
      all_goals go_ret
      all_goals exact ⟨retB (by simp [M.has, hd]), rfl⟩
  · have hw' : M.wide y = false := by simpa using hw
    clear hw
    go_enter Try.func81, Try.ntmps81
    go_wp2_with (go_at_call 84; refine (isWidth_any _ _).mono ?_; rintro e w' ⟨rfl, rfl⟩)
    all_goals go_ret
    all_goals exact ⟨retB (by simp [M.has, hw']), rfl⟩
theorem two_pow_eight (j : Nat) : 2 ^ (8 * j) = 256 ^ j := by rw [Nat.pow_mul]
theorem or_byte (m b j : Nat) (hm : m < 256 ^ j) (hb : b < 256) (hj : j < 8) :
    bits .or .u64 (m : Int) (IntKind.u64.wrap ((b : Int) * 2 ^ (8 * j))) = ((m + 256 ^ j * b : Nat) : Int) := by
  have e1 : ((b : Int) * 2 ^ (8 * j)) = ((2 ^ (8 * j) * b : Nat) : Int) := by
    rw [Nat.mul_comm (2 ^ (8 * j)) b]; simp
  have hp : 256 ^ j * 256 ≤ 18446744073709551616 := by
    rw [← Nat.pow_succ]
    exact Nat.le_trans (Nat.pow_le_pow_right (by decide) (show j + 1 ≤ 8 by omega)) (by decide)
  have hq : 256 ^ j * b < 256 ^ j * 256 := (Nat.mul_lt_mul_left (Nat.pow_pos (by decide))).2 hb
  have hs : 256 ^ j * (b + 1) ≤ 256 ^ j * 256 := Nat.mul_le_mul_left _ (by omega)
  rw [Nat.mul_add] at hs
  have e2 : IntKind.u64.wrap ((b : Int) * 2 ^ (8 * j)) = ((2 ^ (8 * j) * b : Nat) : Int) := by
    rw [e1, wrapU, two_pow_eight]
    generalize 256 ^ j * b = q at *
    omega
  rw [e2, bits_or_u64_nat _ _ (by omega) (by rw [two_pow_eight]; omega), Nat.or_comm, ← Nat.two_pow_add_eq_or_of_lt (by rw [two_pow_eight]; exact hm), two_pow_eight, Nat.add_comm]
theorem low_byte (n j : Nat) : IntKind.u8.wrap ((n : Int) / 2 ^ (8 * j)) = ((UInt8.ofNat (n / 256 ^ j)).toNat : Int) := by
  have e : (n : Int) / 2 ^ (8 * j) = ((n / 256 ^ j : Nat) : Int) := by rw [← two_pow_eight]; simp
  rw [e, IntKind.wrap_u8, UInt8.toNat_ofNat']
  omega
theorem get_no (A : Option Addr) (l : List UInt8) (c : Nat) (x y : Int) (hz : l.length ≤ 140737488355328) (hx : -9223372036854775808 ≤ x ∧ x ≤ 9223372036854775807) (h : M.has l.length x y = false) (w : World) :
    Calls Try.prog 64 #[.slice A l.length c, .int .i64 x, .int .i64 y] w fun e w' => e = .returned (.tuple #[.int .u64 0, .bool false]) ∧ w = w' := by
  go_enter Try.func64, Try.ntmps64
  go_wp2_with (go_at_call 81; refine (room_any _ _ _ hz hx _).mono ?_; rintro e w' ⟨rfl, rfl⟩)
  go_ret2
  exact ⟨rfl, rfl⟩
set_option maxHeartbeats 400000 in
theorem get_yes (A : Option Addr) (l : List UInt8) (c a k : Nat) (hk : k = 1 ∨ k = 2 ∨ k = 4 ∨ k = 8) (hz : l.length ≤ 140737488355328) (h : a + k ≤ l.length) (w : World) (hl : Lies w A (u8s l)) :
    Calls Try.prog 64 #[.slice A l.length c, .int .i64 a, .int .i64 k] w fun e w' => e = .returned (.tuple #[.int .u64 (M.num (M.seg l a k) : Nat), .bool true]) ∧ w = w' := by
  have hh := M.has_nat hk h
  have hk8 : k ≤ 8 := by omega
  have hk0 : 0 < k := by omega
  obtain ⟨ad, rfl, hc⟩ := hl (by rw [u8s_length]; omega)
  have HC := Lib.hid hc; clear hc
  have HK := Lib.hid hk; clear hk
  go_enter Try.func64, Try.ntmps64
  go_wp2_with (go_at_call 81; refine (room_any _ _ _ hz (by omega) _).mono ?_; rintro e w' ⟨rfl, rfl⟩)
  go_loop [8, 17] (fun n i => ∃ j : Nat, j ≤ k ∧ i = .int .i64 j ∧ n = .int .u64 (M.num (M.seg l a j) : Nat)) (fun _ i => k - (intOf i).toNat)
  case atStart => exact ⟨0, by omega, rfl, by simp [M.seg, M.num]⟩
  case round =>
    obtain ⟨j, hj, rfl, rfl⟩ := hrel
    by_cases hlt : j < k
    · have hc := HC.out (a + j) (by rw [u8s_length]; omega)
      have hsn := M.num_seg_succ l a j (by omega)
      have hsl := M.num_seg_lt l a j (by omega)
      simp only [u8s, List.getElem_map] at hc
      generalize l[a + j] = b at hc hsn
      have hb := b.toNat_lt
      have HS := Lib.hid hsn; clear hsn
      have HL := Lib.hid hsl; clear hsl
      go_wp2
      go_round
      case rel => exact ⟨j + 1, by omega, by go_num, by rw [or_byte _ _ _ HL.out hb (by omega), HS.out]⟩
      case measure => simp [intOf]; omega
    · go_wp2
      go_ret2
      exact ⟨ret2 (by rw [show j = k by omega]) rfl, rfl⟩
theorem get_any (A : Option Addr) (l : List UInt8) (c : Nat) (x y : Int) (hz : l.length ≤ 140737488355328) (hx : -9223372036854775808 ≤ x ∧ x ≤ 9223372036854775807) (w : World) (hl : Lies w A (u8s l)) :
    Calls Try.prog 64 #[.slice A l.length c, .int .i64 x, .int .i64 y] w fun e w' =>
      e = .returned (.tuple #[.int .u64 (if M.has l.length x y = true then M.num (M.seg l x.toNat y.toNat) else 0 : Nat), .bool (M.has l.length x y)]) ∧ w = w' := by
  by_cases h : M.has l.length x y = true
  · obtain ⟨a, k, rfl, rfl, hk, hak⟩ := M.has_cases h
    rw [if_pos h, h]
    exact get_yes A l c a k hk hz hak w hl
  · have h' : M.has l.length x y = false := by simpa using h
    rw [if_neg h, h']
    exact get_no A l c x y hz hx h' w
theorem put_no (A : Option Addr) (z c : Nat) (x y : Int) (n : Nat) (hz : z ≤ 140737488355328) (hx : -9223372036854775808 ≤ x ∧ x ≤ 9223372036854775807) (h : M.has z x y = false) (w : World) :
    Calls Try.prog 85 #[.slice A z c, .int .i64 x, .int .i64 y, .int .u64 n] w fun e w' => e = .returned (.bool false) ∧ w = w' := by
  go_enter Try.func85, Try.ntmps85
  go_wp2_with (go_at_call 81; refine (room_any _ _ _ hz hx _).mono ?_; rintro e w' ⟨rfl, rfl⟩)
  go_ret
  exact ⟨rfl, rfl⟩
set_option maxHeartbeats 400000 in
theorem put_yes (g : Nat) (l : List UInt8) (c a k n : Nat) (hk : k = 1 ∨ k = 2 ∨ k = 4 ∨ k = 8) (hn : n < 18446744073709551616) (hz : l.length ≤ 140737488355328) (h : a + k ≤ l.length) (w : World) (hl : Own w g l) :
    Calls Try.prog 85 #[.slice (some ⟨g, 0, none⟩) l.length c, .int .i64 a, .int .i64 k, .int .u64 n] w fun e w' => e = .returned (.bool true) ∧ Own w' g (M.put l a k n) ∧ w.grownBy w' (some g) := by
  have hh := M.has_nat hk h
  have hk8 : k ≤ 8 := by omega
  have hk0 : 0 < k := by omega
  have HK := Lib.hid hk; clear hk
  go_enter Try.func85, Try.ntmps85
  go_wp2_with (go_at_call 81; refine (room_any _ _ _ hz (by omega) _).mono ?_; rintro e w' ⟨rfl, rfl⟩)
  go_loopw [17] (fun i wr => ∃ j : Nat, j ≤ k ∧ i = .int .i64 j ∧ Own wr g (M.put l a j n) ∧ w.grownBy wr (some g)) (fun i _ => k - (intOf i).toNat)
  case atStart => exact ⟨0, by omega, rfl, by rw [M.put_zero]; exact hl, World.grownBy.refl w _⟩
  case round =>
    obtain ⟨j, hj, rfl, ho, hg⟩ := hrel
    by_cases hlt : j < k
    · have hpl := M.put_length l a j n (by omega)
      have hc := ho.1 (a + j) (by omega)
      have hf := ho.2 (a + j) (by omega)
      have hs := ho.set (a + j) (by omega) (UInt8.ofNat (n / 256 ^ j))
      rw [← M.put_succ l a j n (by omega), ← low_byte] at hs
      have HS := Lib.hid hs; clear hs
      generalize (M.put l a j n)[a + j].toNat = b at hc
      clear hpl
      go_wp2
      go_roundw
      case rel => exact ⟨j + 1, by omega, by go_num, HS.out, only_setCell hg rfl _⟩
      case measure => simp [intOf]; omega
    · go_wp2
      go_ret
      exact ⟨rfl, by rw [show k = j by omega]; exact ho, hg⟩
/-- Does a number fit? -/
def fitsB (n : Nat) (y : Int) : Bool := M.wide y && decide (n < 256 ^ y.toNat)
theorem fits_1 (n : Nat) : ((n : Int) / 256 == 0) = fitsB n ((1 : Nat) : Int) := by
  rw [Bool.eq_iff_iff]; simp [fitsB, M.wide]; omega
theorem fits_2 (n : Nat) : ((n : Int) / 65536 == 0) = fitsB n ((2 : Nat) : Int) := by
  rw [Bool.eq_iff_iff]; simp [fitsB, M.wide]; omega
theorem fits_4 (n : Nat) : ((n : Int) / 4294967296 == 0) = fitsB n ((4 : Nat) : Int) := by
  rw [Bool.eq_iff_iff]; simp [fitsB, M.wide]; omega
theorem fits_8 (n : Nat) : ((n : Int) / 18446744073709551616 == 0) = fitsB n ((8 : Nat) : Int) := by
  rw [Bool.eq_iff_iff]; simp [fitsB, M.wide]; omega
theorem fits_any (n : Nat) (y : Int) (hn : n < 18446744073709551616) (w : World) :
    Calls Try.prog 86 #[.int .u64 n, .int .i64 y] w fun e w' => e = .returned (.bool (fitsB n y)) ∧ w = w' := by
  by_cases hw : M.wide y = true
  · obtain ⟨k, rfl, hk⟩ := M.wide_cases hw
    rcases hk with rfl | rfl | rfl | rfl
    all_goals
      go_enter Try.func86, Try.ntmps86
      go_wp2_with (go_at_call 84; refine (isWidth_any _ _).mono ?_; rintro e w' ⟨rfl, rfl⟩)
      go_ret
    · exact ⟨retB (fits_1 n), rfl⟩
    · exact ⟨retB (fits_2 n), rfl⟩
    · exact ⟨retB (fits_4 n), rfl⟩
    · exact ⟨retB (fits_8 n), rfl⟩
  · have hw' : M.wide y = false := by simpa using hw
    clear hw
    go_enter Try.func86, Try.ntmps86
    go_wp2_with (go_at_call 84; refine (isWidth_any _ _).mono ?_; rintro e w' ⟨rfl, rfl⟩)
    go_ret
    exact ⟨retB (by simp [fitsB, hw']), rfl⟩
theorem sgn_1 (n : Nat) : wrap64 (IntKind.u64.wrap ((n : Int) * 72057594037927936)) / 72057594037927936 = M.sgn (((1 : Nat) : Int).toNat) n := by
  simp only [wrap64, wrapU, M.sgn, Int.toNat_natCast, Nat.reducePow, Nat.reduceDiv]
  split <;> omega
theorem sgn_2 (n : Nat) : wrap64 (IntKind.u64.wrap ((n : Int) * 281474976710656)) / 281474976710656 = M.sgn (((2 : Nat) : Int).toNat) n := by
  simp only [wrap64, wrapU, M.sgn, Int.toNat_natCast, Nat.reducePow, Nat.reduceDiv]
  split <;> omega
theorem sgn_4 (n : Nat) : wrap64 (IntKind.u64.wrap ((n : Int) * 4294967296)) / 4294967296 = M.sgn (((4 : Nat) : Int).toNat) n := by
  simp only [wrap64, wrapU, M.sgn, Int.toNat_natCast, Nat.reducePow, Nat.reduceDiv]
  split <;> omega
theorem sgn_8 (n : Nat) (hn : n < 18446744073709551616) : wrap64 (n : Int) = M.sgn (((8 : Nat) : Int).toNat) n := by
  simp only [wrap64, M.sgn, Int.toNat_natCast, Nat.reducePow, Nat.reduceDiv]
  split <;> omega
theorem put_at (g z c : Nat) (l : List UInt8) (x y m : Int) (a k n : Nat) (ez : z = l.length) (ex : x = a) (ey : y = k) (em : m = n) (hk : k = 1 ∨ k = 2 ∨ k = 4 ∨ k = 8) (hn : n < 18446744073709551616) (hz : l.length ≤ 140737488355328) (h : a + k ≤ l.length) (w : World) (hl : Own w g l) :
    Calls Try.prog 85 #[.slice (some ⟨g, 0, none⟩) z c, .int .i64 x, .int .i64 y, .int .u64 m] w fun e w' => e = .returned (.bool true) ∧ Own w' g (M.put l a k n) ∧ w.grownBy w' (some g) := by
  subst ez ex ey em
  exact put_yes g l c a k n hk hn hz h w hl
theorem bytes_no (y : Int) (A : Option Addr) (z c : Nat) (h : M.wide y = false) (w : World) :
    Calls Try.prog 69 #[.int .i64 y, .slice A z c] w fun e w' => e = .returned (.slice none 0 0) ∧ w = w' := by
  go_enter Try.func69, Try.ntmps69
  go_wp2_with (go_at_call 84; refine (isWidth_any _ _).mono ?_; rintro e w' ⟨rfl, rfl⟩)
  go_ret
  exact ⟨rfl, rfl⟩
theorem bytes_step {w wr w1 : World} {k : Nat} {l : List Nat} {j : Nat} (h : j < l.length) (hg : w.heap.size < wr.heap.size) (hb : Below w.heap.size w wr) (h1 : Own w1 w.heap.size (M.put (M.part k l j) (j * k) k l[j]) ∧ wr.grownBy w1 (some w.heap.size)) :
    Own w1 w.heap.size (M.part k l (j + 1)) ∧ Below w.heap.size w w1 ∧ w.heap.size < w1.heap.size := by
  rw [M.part_succ k l j h] at h1
  exact ⟨h1.1, hb.grown h1.2 (by omega) (fun k hk => by injection hk with hk; omega), Nat.lt_of_lt_of_le hg h1.2.size⟩
set_option maxHeartbeats 400000 in
theorem bytes_yes (k : Nat) (hk : k = 1 ∨ k = 2 ∨ k = 4 ∨ k = 8) (A : Option Addr) (l : List Nat) (c : Nat) (hz : l.length ≤ 1099511627776) (hb : ∀ n ∈ l, n < 18446744073709551616) (w : World) (hl : Lies w A (u64s l)) :
    Calls Try.prog 69 #[.int .i64 k, .slice A l.length c] w fun e w' =>
      e = .returned (.slice (some ⟨w.heap.size, 0, none⟩) (l.length * k) (l.length * k)) ∧ Own w' w.heap.size (M.bts k l) ∧ Below w.heap.size w w' := by
  have HB := Lib.hid hb; clear hb
  have HL := Lib.hid hl; clear hl
  rcases hk with rfl | rfl | rfl | rfl
  · have hw1 : M.wide 1 = true := rfl
    have hmk := fun W => make22 l.length l.length (by omega) (by omega) W
    go_enter Try.func69, Try.ntmps69
    go_wp2_with (go_at_call 84; refine (isWidth_any _ _).mono ?_; rintro e w' ⟨rfl, rfl⟩)
    have hown : Own (w.alloc (.cells (madeCells #[.int .u8 0] l.length) 5)) w.heap.size (M.part 1 l 0) := by rw [M.part_zero]; rw [Nat.mul_one]; exact own_made _ _
    go_loopw [18] (fun i wr => ∃ j : Nat, j ≤ l.length ∧ i = .int .i64 j ∧ Own wr w.heap.size (M.part 1 l j) ∧ Below w.heap.size w wr ∧ w.heap.size < wr.heap.size) (fun i _ => l.length - (intOf i).toNat)
    case atStart => exact ⟨0, by omega, rfl, hown, (Below.refl _ _).alloc (Nat.le_refl _) _, by simp⟩
    case round =>
      clear hown
      obtain ⟨j, hj, rfl, ho, hbl, hsz⟩ := hrel
      by_cases hlt : j < l.length
      · obtain ⟨ad, rfl, hc⟩ := (HL.out.below hbl) (by rw [u64s_length]; omega)
        have hcj := hc j (by rw [u64s_length]; omega)
        simp only [u64s, List.getElem_map] at hcj
        have hnj := HB.out l[j] (List.getElem_mem _)
        have hpl := M.part_length 1 l j hj
        have HC := Lib.hid hc; clear hc
        have HP := Lib.hid hpl; clear hpl
        go_wp2_with fail
        refine (put_at _ _ _ _ _ _ _ (j * 1) 1 l[j] (by rw [HP.out]; omega) (by omega) rfl rfl (by omega) hnj (by have := HP.out; omega) (by have := HP.out; omega) _ ho).mono ?_
        rintro e w1 ⟨rfl, h1⟩
        have H1 := bytes_step hlt hsz hbl h1
        clear h1
        go_wp2
        go_roundw
        case rel => exact ⟨j + 1, by omega, by go_num, H1.1, H1.2.1, H1.2.2⟩
        case measure => simp [intOf]; omega
      · have e : j = l.length := by omega
        rw [e, M.part_all] at ho
        clear e
        go_wp2
        go_ret
        exact ⟨by rw [Nat.mul_one]; rfl, ho, hbl⟩
  · have hw2 : M.wide 2 = true := rfl
    have hmk := fun W => make22 (l.length * 2) (l.length * 2) (by omega) (by omega) W
    go_enter Try.func69, Try.ntmps69
    go_wp2_with (go_at_call 84; refine (isWidth_any _ _).mono ?_; rintro e w' ⟨rfl, rfl⟩)
    have hown : Own (w.alloc (.cells (madeCells #[.int .u8 0] (l.length * 2)) 5)) w.heap.size (M.part 2 l 0) := by rw [M.part_zero]; exact own_made _ _
    go_loopw [18] (fun i wr => ∃ j : Nat, j ≤ l.length ∧ i = .int .i64 j ∧ Own wr w.heap.size (M.part 2 l j) ∧ Below w.heap.size w wr ∧ w.heap.size < wr.heap.size) (fun i _ => l.length - (intOf i).toNat)
    case atStart => exact ⟨0, by omega, rfl, hown, (Below.refl _ _).alloc (Nat.le_refl _) _, by simp⟩
    case round =>
      clear hown
      obtain ⟨j, hj, rfl, ho, hbl, hsz⟩ := hrel
      by_cases hlt : j < l.length
      · obtain ⟨ad, rfl, hc⟩ := (HL.out.below hbl) (by rw [u64s_length]; omega)
        have hcj := hc j (by rw [u64s_length]; omega)
        simp only [u64s, List.getElem_map] at hcj
        have hnj := HB.out l[j] (List.getElem_mem _)
        have hpl := M.part_length 2 l j hj
        have HC := Lib.hid hc; clear hc
        have HP := Lib.hid hpl; clear hpl
        go_wp2_with fail
        refine (put_at _ _ _ _ _ _ _ (j * 2) 2 l[j] (by rw [HP.out]) (by omega) rfl rfl (by omega) hnj (by have := HP.out; omega) (by have := HP.out; omega) _ ho).mono ?_
        rintro e w1 ⟨rfl, h1⟩
        have H1 := bytes_step hlt hsz hbl h1
        clear h1
        go_wp2
        go_roundw
        case rel => exact ⟨j + 1, by omega, by go_num, H1.1, H1.2.1, H1.2.2⟩
        case measure => simp [intOf]; omega
      · have e : j = l.length := by omega
        rw [e, M.part_all] at ho
        clear e
        go_wp2
        go_ret
        exact ⟨rfl, ho, hbl⟩
  · have hw4 : M.wide 4 = true := rfl
    have hmk := fun W => make22 (l.length * 4) (l.length * 4) (by omega) (by omega) W
    go_enter Try.func69, Try.ntmps69
    go_wp2_with (go_at_call 84; refine (isWidth_any _ _).mono ?_; rintro e w' ⟨rfl, rfl⟩)
    have hown : Own (w.alloc (.cells (madeCells #[.int .u8 0] (l.length * 4)) 5)) w.heap.size (M.part 4 l 0) := by rw [M.part_zero]; exact own_made _ _
    go_loopw [18] (fun i wr => ∃ j : Nat, j ≤ l.length ∧ i = .int .i64 j ∧ Own wr w.heap.size (M.part 4 l j) ∧ Below w.heap.size w wr ∧ w.heap.size < wr.heap.size) (fun i _ => l.length - (intOf i).toNat)
    case atStart => exact ⟨0, by omega, rfl, hown, (Below.refl _ _).alloc (Nat.le_refl _) _, by simp⟩
    case round =>
      clear hown
      obtain ⟨j, hj, rfl, ho, hbl, hsz⟩ := hrel
      by_cases hlt : j < l.length
      · obtain ⟨ad, rfl, hc⟩ := (HL.out.below hbl) (by rw [u64s_length]; omega)
        have hcj := hc j (by rw [u64s_length]; omega)
        simp only [u64s, List.getElem_map] at hcj
        have hnj := HB.out l[j] (List.getElem_mem _)
        have hpl := M.part_length 4 l j hj
        have HC := Lib.hid hc; clear hc
        have HP := Lib.hid hpl; clear hpl
        go_wp2_with fail
        refine (put_at _ _ _ _ _ _ _ (j * 4) 4 l[j] (by rw [HP.out]) (by omega) rfl rfl (by omega) hnj (by have := HP.out; omega) (by have := HP.out; omega) _ ho).mono ?_
        rintro e w1 ⟨rfl, h1⟩
        have H1 := bytes_step hlt hsz hbl h1
        clear h1
        go_wp2
        go_roundw
        case rel => exact ⟨j + 1, by omega, by go_num, H1.1, H1.2.1, H1.2.2⟩
        case measure => simp [intOf]; omega
      · have e : j = l.length := by omega
        rw [e, M.part_all] at ho
        clear e
        go_wp2
        go_ret
        exact ⟨rfl, ho, hbl⟩
  · have hw8 : M.wide 8 = true := rfl
    have hmk := fun W => make22 (l.length * 8) (l.length * 8) (by omega) (by omega) W
    go_enter Try.func69, Try.ntmps69
    go_wp2_with (go_at_call 84; refine (isWidth_any _ _).mono ?_; rintro e w' ⟨rfl, rfl⟩)
    have hown : Own (w.alloc (.cells (madeCells #[.int .u8 0] (l.length * 8)) 5)) w.heap.size (M.part 8 l 0) := by rw [M.part_zero]; exact own_made _ _
    go_loopw [18] (fun i wr => ∃ j : Nat, j ≤ l.length ∧ i = .int .i64 j ∧ Own wr w.heap.size (M.part 8 l j) ∧ Below w.heap.size w wr ∧ w.heap.size < wr.heap.size) (fun i _ => l.length - (intOf i).toNat)
    case atStart => exact ⟨0, by omega, rfl, hown, (Below.refl _ _).alloc (Nat.le_refl _) _, by simp⟩
    case round =>
      clear hown
      obtain ⟨j, hj, rfl, ho, hbl, hsz⟩ := hrel
      by_cases hlt : j < l.length
      · obtain ⟨ad, rfl, hc⟩ := (HL.out.below hbl) (by rw [u64s_length]; omega)
        have hcj := hc j (by rw [u64s_length]; omega)
        simp only [u64s, List.getElem_map] at hcj
        have hnj := HB.out l[j] (List.getElem_mem _)
        have hpl := M.part_length 8 l j hj
        have HC := Lib.hid hc; clear hc
        have HP := Lib.hid hpl; clear hpl
        go_wp2_with fail
        refine (put_at _ _ _ _ _ _ _ (j * 8) 8 l[j] (by rw [HP.out]) (by omega) rfl rfl (by omega) hnj (by have := HP.out; omega) (by have := HP.out; omega) _ ho).mono ?_
        rintro e w1 ⟨rfl, h1⟩
        have H1 := bytes_step hlt hsz hbl h1
        clear h1
        go_wp2
        go_roundw
        case rel => exact ⟨j + 1, by omega, by go_num, H1.1, H1.2.1, H1.2.2⟩
        case measure => simp [intOf]; omega
      · have e : j = l.length := by omega
        rw [e, M.part_all] at ho
        clear e
        go_wp2
        go_ret
        exact ⟨rfl, ho, hbl⟩
/-- The bytes of numbers, of any width. -/
def btsOf (y : Int) (l : List Nat) : List UInt8 := if M.wide y = true then M.bts y.toNat l else []
theorem btsOf_wide {k : Nat} (hk : k = 1 ∨ k = 2 ∨ k = 4 ∨ k = 8) (l : List Nat) : btsOf (k : Int) l = M.bts k l := by
  unfold btsOf; rw [if_pos (M.wide_nat hk)]; rfl
theorem bytes_any (y : Int) (A : Option Addr) (l : List Nat) (c : Nat) (hz : l.length ≤ 1099511627776) (hb : ∀ n ∈ l, n < 18446744073709551616) (w : World) (hl : Lies w A (u64s l)) :
    Calls Try.prog 69 #[.int .i64 y, .slice A l.length c] w fun e w' =>
      ∃ A' c', e = .returned (.slice A' (btsOf y l).length c') ∧ Lies w' A' (u8s (btsOf y l)) ∧ Below w.heap.size w w' := by
  by_cases hw : M.wide y = true
  · obtain ⟨k, rfl, hk⟩ := M.wide_cases hw
    rw [btsOf_wide hk]
    refine (bytes_yes k hk A l c hz hb w hl).mono ?_
    rintro e w' ⟨rfl, ho, hbl⟩
    exact ⟨_, _, by rw [M.bts_length], ho.lies, hbl⟩
  · have h' : M.wide y = false := by simpa using hw
    have e : btsOf y l = [] := by unfold btsOf; rw [if_neg hw]
    rw [e]
    refine (bytes_no y A _ c h' w).mono ?_
    rintro e w' ⟨rfl, rfl⟩
    exact ⟨none, 0, rfl, Lies.nil, Below.refl _ _⟩
/-- The list behind a number that was put, or was not. -/
def putOf (l : List UInt8) (x y : Int) (n : Nat) : List UInt8 := if M.has l.length x y = true then M.put l x.toNat y.toNat n else l
theorem put_any (g : Nat) (l : List UInt8) (c : Nat) (x y : Int) (n : Nat) (hn : n < 18446744073709551616) (hz : l.length ≤ 140737488355328) (hx : -9223372036854775808 ≤ x ∧ x ≤ 9223372036854775807) (w : World) (hl : Own w g l) :
    Calls Try.prog 85 #[.slice (some ⟨g, 0, none⟩) l.length c, .int .i64 x, .int .i64 y, .int .u64 n] w fun e w' => e = .returned (.bool (M.has l.length x y)) ∧ Own w' g (putOf l x y n) ∧ w.grownBy w' (some g) := by
  unfold putOf
  by_cases h : M.has l.length x y = true
  · rw [if_pos h, h]
    obtain ⟨a, k, rfl, rfl, hk, hak⟩ := M.has_cases h
    exact put_yes g l c a k n hk hn hz hak w hl
  · have h' : M.has l.length x y = false := by simpa using h
    rw [if_neg h, h']
    refine (put_no _ _ c x y n hz hx h' w).mono ?_
    rintro e w' ⟨rfl, rfl⟩
    exact ⟨rfl, hl, World.grownBy.refl w _⟩
/-- The number that is got, or 0. -/
def getOf (l : List UInt8) (x y : Int) : Nat := if M.has l.length x y = true then M.num (M.seg l x.toNat y.toNat) else 0
theorem get_of (A : Option Addr) (z c : Nat) (l : List UInt8) (x y : Int) (ez : z = l.length) (hz : l.length ≤ 140737488355328) (hx : -9223372036854775808 ≤ x ∧ x ≤ 9223372036854775807) (w : World) (hl : Lies w A (u8s l)) :
    Calls Try.prog 64 #[.slice A z c, .int .i64 x, .int .i64 y] w fun e w' => e = .returned (.tuple #[.int .u64 (getOf l x y : Nat), .bool (M.has l.length x y)]) ∧ w = w' := by
  subst ez
  exact get_any A l c x y hz hx w hl
end Go.Proofs.Ytmagdhcpbofkbaa
/-
  A space in memory: its three cells, its map of pages, its pages; what stays when other blocks are written.
-/
namespace Go.Proofs.Ytmagdhcpbofkbaa
open Go.ChangeShapes Go.WideShapes Go.ChangeAt Go.RowKit
open Go.Maps (Keyed)
set_option linter.unusedVariables false
set_option maxRecDepth 20000

/-! What stays. -/
/-- All blocks but some are as they were. -/
structure Kept (w w' : World) (O : Nat → Prop) : Prop where
  os : w'.os = w.os
  tape : w'.tape = w.tape
  output : w'.output = w.output
  size : w.heap.size ≤ w'.heap.size
  block : ∀ i, i < w.heap.size → ¬ O i → w'.heap[i]? = w.heap[i]?

section
variable {w w1 w2 : World} {O O' : Nat → Prop}
theorem Kept.refl (w : World) (O : Nat → Prop) : Kept w w O := ⟨rfl, rfl, rfl, Nat.le_refl _, fun _ _ _ => rfl⟩
theorem Kept.drew (h : Kept w w1 O) : Kept w w1.drew O := ⟨h.os, h.tape, h.output, h.size, h.block⟩
theorem Kept.drewN (h : Kept w w1 O) (n : Nat) : Kept w (w1.drewN n) O := ⟨h.os, h.tape, h.output, h.size, h.block⟩
theorem Kept.alloc (h : Kept w w1 O) (o : Obj) : Kept w (w1.alloc o) O :=
  ⟨h.os, h.tape, h.output, Nat.le_trans h.size (le_alloc _ _), fun i hi hO => (Below.heap_alloc w1 o i (Nat.lt_of_lt_of_le hi h.size)).trans (h.block i hi hO)⟩
theorem Kept.setCell (h : Kept w w1 O) {p : Addr} (hp : p.block < w.heap.size → O p.block) (u : Value) : Kept w (w1.setCell p u) O :=
  ⟨h.os, h.tape, h.output, by simpa [World.setCell] using h.size, fun i hi hO => (Below.heap_setCell w1 p u i (fun e => hO (e ▸ hp (e ▸ hi)))).trans (h.block i hi hO)⟩
theorem Kept.setCells (h : Kept w w1 O) {g : Nat} (hp : g < w.heap.size → O g) : ∀ (vs : List Value) (o : Nat), Kept w (w1.setCells g o vs) O := by
  intro vs
  induction vs generalizing w1 with
  | nil => intro o; exact h
  | cons v r ih => intro o; exact ih (h.setCell (p := ⟨g, o, none⟩) hp v) (o + 1)
theorem Kept.grown (h : Kept w w1 O) {r : Option Nat} (hg : w1.grownBy w2 r) (hr : ∀ b, r = some b → b < w.heap.size → O b) : Kept w w2 O :=
  ⟨hg.os.trans h.os, hg.tape.trans h.tape, hg.output.trans h.output, Nat.le_trans h.size hg.size, fun i hi hO => (hg.block i (Nat.lt_of_lt_of_le hi h.size) (fun e => hO (hr i e.symm hi))).trans (h.block i hi hO)⟩
theorem Kept.trans (h : Kept w w1 O) (g : Kept w1 w2 O') (hO : ∀ i, i < w.heap.size → O' i → O i) : Kept w w2 O :=
  ⟨g.os.trans h.os, g.tape.trans h.tape, g.output.trans h.output, Nat.le_trans h.size g.size, fun i hi hn => (g.block i (Nat.lt_of_lt_of_le hi h.size) (fun e => hn (hO i hi e))).trans (h.block i hi hn)⟩
theorem Kept.mono (h : Kept w w1 O) (hO : ∀ i, i < w.heap.size → O i → O' i) : Kept w w1 O' := ⟨h.os, h.tape, h.output, h.size, fun i hi hn => h.block i hi (fun e => hn (hO i hi e))⟩
theorem Kept.below (h : Kept w w1 O) {B : Nat} (hB : B ≤ w.heap.size) (hO : ∀ i, O i → B ≤ i) : Below B w w1 := ⟨h.os, h.tape, h.output, h.size, fun i hi => h.block i (by omega) (fun e => by have := hO i e; omega)⟩
theorem Kept.of_below (h : Below w.heap.size w w1) (O : Nat → Prop) : Kept w w1 O := ⟨h.os, h.tape, h.output, h.size, fun i hi _ => h.block i hi⟩
theorem Kept.cell (h : Kept w w1 O) {p : Addr} (hp : p.block < w.heap.size) (hO : ¬ O p.block) : w1.cell? p = w.cell? p := World.cell?_of_block (h.block _ hp hO)
theorem Kept.frozen (h : Kept w w1 O) {p : Addr} (hp : p.block < w.heap.size) (hO : ¬ O p.block) : w1.frozen? p = w.frozen? p := World.frozen?_of_block (h.block _ hp hO)
theorem Kept.cell_some (h : Kept w w1 O) {p : Addr} {v : Value} (hv : w.cell? p = some v) (hO : ¬ O p.block) : w1.cell? p = some v := (h.cell (lt_of_cell hv) hO).trans hv
theorem Kept.own (h : Kept w w1 O) {g : Nat} {l : List UInt8} (ho : Own w g l) (hg : g < w.heap.size) (hO : ¬ O g) : Own w1 g l := ho.keep (h.block g hg hO)
theorem Kept.lies (h : Kept w w1 O) {A : Option Addr} {xs : List Value} (hl : Lies w A xs) (hO : 0 < xs.length → ∀ ad, A = some ad → ¬ O ad.block) : Lies w1 A xs := fun hn => by
  obtain ⟨ad, e, hc⟩ := hl hn
  refine ⟨ad, e, fun j hj => h.cell_some (hc j hj) ?_⟩
  rw [block_of_add]
  exact hO hn ad e
end

theorem Own.setCells {w : World} {g : Nat} {l : List UInt8} (h : Own w g l) (o : Nat) (p : List UInt8) (hp : o + p.length ≤ l.length) : Own (w.setCells g o (u8s p)) g (M.splice l o p) := by
  have hlen := M.splice_length l o p hp
  refine ⟨fun j hj => ?_, fun j hj => ?_⟩
  · rw [hlen] at hj
    by_cases hin : o ≤ j ∧ j < o + p.length
    · obtain ⟨i, rfl⟩ : ∃ i, j = o + i := ⟨j - o, by omega⟩
      rw [World.cell?_setCells_in g (u8s p) o w (fun i hi => by rw [u8s_length] at hi; rw [h.1 (o + i) (by omega)]; rfl) i (by rw [u8s_length]; omega)]
      have e := M.splice_in l o p i hp (by omega)
      rw [List.getElem?_eq_getElem (by rw [hlen]; exact hj)] at e
      injection e with e
      rw [e]
      simp [u8s]
    · have ho : j < o ∨ o + (u8s p).length ≤ j := by rw [u8s_length]; omega
      rw [World.cell?_setCells_out g (u8s p) o w _ (fun _ _ => ho), h.1 j hj]
      have e := M.splice_out l o p j hp (by omega)
      rw [List.getElem?_eq_getElem (by rw [hlen]; exact hj), List.getElem?_eq_getElem hj] at e
      injection e with e
      rw [e]
  · rw [hlen] at hj
    rw [World.frozen?_setCells]
    exact h.2 j hj

/-! Keys and pages of the map. -/
theorem laidOut : laidOutB Try.prog = true := by kernel_rfl
theorem row68 : (112 : TypeId) < Try.prog.types.size := of_decide_eq_true (by kernel_rfl)
theorem wide68 : (match Try.prog.underlying 112 with | some (.array _ _) | some (.struct _) => true | _ => false) = true := by rw [Try.underlying112]
theorem keyed : Keyed Try.prog 112 := Keyed.of_law (deep_law_laid laidOut (m := 2) (by omega) row68 (by kernel_rfl) wide68)
theorem arr68 : WideMaps.ArrKey Try.prog 112 3 2 := ⟨Try.underlying112, by kernel_rfl, by kernel_rfl, by kernel_rfl⟩
theorem zero32 (w : World) : (zeroValue 22).run Try.prog w = .ok (.slice none 0 0) w := by kernel_rfl

def keyV (k : Nat) : Value := .agg #[.int .i64 ((k / 1024 : Nat) : Int), .int .i64 ((k % 1024 : Nat) : Int)]
def keyL (k : Nat) : Lit := .string (keyBytes [.int .i64 ((k / 1024 : Nat) : Int), .int .i64 ((k % 1024 : Nat) : Int)])
theorem key_of (k : Nat) (hk : k < 4503599627370496) : keyOf Try.prog 112 (keyV k) = some (keyL k) :=
  WideMaps.keyOf_pair arr68 Try.underlying3 ⟨_, (Nat.succ_pred_eq_of_pos (Nat.lt_of_le_of_lt (Nat.zero_le _) row68)).symm⟩ (WalkArith.wf_i64 (by omega)) (WalkArith.wf_i64 (by omega))
theorem keyL_inj {a b : Nat} (ha : a < 4503599627370496) (hb : b < 4503599627370496) (h : keyL a = keyL b) : a = b := by
  have := keyed.inj (key_of a ha) (h ▸ key_of b hb)
  simp only [keyV, Value.agg.injEq, Array.mk.injEq, List.cons.injEq, Value.int.injEq, true_and, and_true] at this
  omega

/-- How a page among the elements reads: by its block. -/
def pageEl (v : Value) : Option (DataW Unit × List MemPlace) :=
  match v with
  | .slice none 0 0 => some (.nil, [])
  | .slice (some ⟨g, 0, none⟩) 4096 c => if 4096 ≤ c then some (.lit (.int .u64 (g : Int)), []) else none
  | _ => none
theorem pageEl_mk (g c : Nat) (hc : 4096 ≤ c) : pageEl (.slice (some ⟨g, 0, none⟩) 4096 c) = some (.lit (.int .u64 (g : Int)), []) := by simp [pageEl, hc]
theorem pageEl_nil {v : Value} {ps : List MemPlace} (h : pageEl v = some (.nil, ps)) : v = .slice none 0 0 := by
  unfold pageEl at h
  split at h
  · rfl
  · split at h <;> simp at h
  · simp at h
theorem pageEl_lit {v : Value} {g : Nat} {ps : List MemPlace} (h : pageEl v = some (.lit (.int .u64 (g : Int)), ps)) : ∃ c, v = .slice (some ⟨g, 0, none⟩) 4096 c ∧ 4096 ≤ c := by
  unfold pageEl at h
  split at h
  · simp at h
  · split at h
    · rename_i c hc
      simp at h
      obtain ⟨h, _⟩ := h
      have : g = _ := (Int.ofNat_inj.1 h).symm
      subst this
      exact ⟨c, rfl, hc⟩
    · simp at h
  · simp at h

/-! A space. -/
abbrev Pgs := Nat → Option (Nat × List UInt8)
/-- Its bytes. -/
def bytesOf (G : Pgs) : Nat → UInt8 := M.flat fun k => (G k).map (·.2)
/-- How many of the first pages are laid. -/
def cntOf (G : Pgs) : Nat → Nat
  | 0 => 0
  | n + 1 => cntOf G n + if (G n).isSome = true then 1 else 0
theorem cntOf_le (G : Pgs) (n : Nat) : cntOf G n ≤ n := by
  induction n with
  | zero => exact Nat.le_refl _
  | succ n ih => unfold cntOf; split <;> omega
def setG (G : Pgs) (k : Nat) (x : Nat × List UInt8) : Pgs := fun j => if j = k then some x else G j
theorem setG_same (G : Pgs) (k : Nat) (x : Nat × List UInt8) : setG G k x k = some x := by simp [setG]
theorem setG_other (G : Pgs) {k j : Nat} (x : Nat × List UInt8) (h : j ≠ k) : setG G k x j = G j := by simp [setG, h]
theorem cntOf_setG (G : Pgs) (k : Nat) (x : Nat × List UInt8) (n : Nat) (h : G k = none) : cntOf (setG G k x) n = cntOf G n + if k < n then 1 else 0 := by
  induction n with
  | zero => simp [cntOf]
  | succ n ih =>
    unfold cntOf
    rw [ih]
    by_cases e : n = k
    · subst e
      rw [setG_same, h]
      simp
    · rw [setG_other G x e]
      by_cases h1 : k < n
      · simp only [h1, show k < n + 1 by omega, if_true]; omega
      · simp only [h1, show ¬ k < n + 1 by omega, if_false]; omega
theorem cntOf_setG' (G : Pgs) (k : Nat) (x : Nat × List UInt8) (n : Nat) (h : (G k).isSome = true) : cntOf (setG G k x) n = cntOf G n := by
  induction n with
  | zero => rfl
  | succ n ih =>
    unfold cntOf
    rw [ih]
    by_cases e : n = k
    · subst e
      rw [setG_same, h]
      simp
    · rw [setG_other G x e]
theorem bytesOf_setG (G : Pgs) (k o : Nat) (g : Nat) (p l : List UInt8) (hp : p.length = 4096) (hl : o + l.length ≤ 4096) (h : (G k).map (·.2) = some p ∨ G k = none ∧ p = List.replicate 4096 0) :
    bytesOf (setG G k (g, M.splice p o l)) = M.wr (bytesOf G) (k * 4096 + o) l := by
  unfold bytesOf
  rw [← M.flat_wr _ k o p l hp hl (h.imp id (fun h => ⟨by rw [h.1]; rfl, h.2⟩))]
  congr 1
  funext j
  unfold M.setPg
  by_cases e : j = k
  · subst e; simp [setG_same]
  · rw [setG_other G _ e, if_neg e]

/-- What block belongs to a space. -/
def Mine (s m : Nat) (G : Pgs) (b : Nat) : Prop := b = s ∨ b = m ∨ ∃ k l, G k = some (b, l)

/-- The map of a space. -/
structure IsMap (w : World) (m P : Nat) (G : Pgs) (D : DataW Unit) : Prop where
  own : w.ownsMap Try.prog 112 pageEl m (Maps.size D) D
  at' : ∀ k, k < P → ∀ zd, D.atKey (keyL k) zd = match G k with | some x => .lit (.int .u64 (x.1 : Int)) | none => zd
  keys : ∀ kl, Maps.has D kl = true → ∃ k, k < P ∧ kl = keyL k
  cnt : Maps.size D = cntOf G P

structure IsSp (w : World) (s m P T : Nat) (G : Pgs) : Prop where
  c0 : w.cell? ⟨s, 0, none⟩ = some (.int .i64 (P : Int))
  c1 : w.cell? ⟨s, 1, none⟩ = some (.map (some m))
  c2 : w.cell? ⟨s, 2, none⟩ = some (.int .i64 (T : Int))
  f2 : w.frozen? ⟨s, 2, none⟩ = false
  map : ∃ D, IsMap w m P G D
  pos : 1 ≤ P
  top : P ≤ 1048576
  page : ∀ k g l, G k = some (g, l) → k < P ∧ Own w g l ∧ l.length = 4096 ∧ g < w.heap.size ∧ g ≠ s ∧ g ≠ m
  inj : ∀ k j g l l', G k = some (g, l) → G j = some (g, l') → k = j

theorem exact_size {w : World} {m n : Nat} {D : DataW Unit} (h : w.ownsMap Try.prog 112 pageEl m n D) : w.ownsMap Try.prog 112 pageEl m (Maps.size D) D := by
  obtain ⟨es, clock, hb, F, hs, rfl⟩ := h
  exact ⟨es, clock, hb, F, by simp [Maps.size, length_sorted], rfl⟩

section
variable {w w' : World} {s m P T : Nat} {G : Pgs}
theorem IsMap.lt {D : DataW Unit} (h : IsMap w m P G D) : m < w.heap.size := h.own.lt
theorem IsMap.kept {D : DataW Unit} (h : IsMap w m P G D) (hb : w'.heap[m]? = w.heap[m]?) : IsMap w' m P G D := by
  refine ⟨?_, h.at', h.keys, h.cnt⟩
  obtain ⟨es, clock, hx, r⟩ := h.own
  exact ⟨es, clock, hb.trans hx, r⟩
theorem IsSp.slt (h : IsSp w s m P T G) : s < w.heap.size := lt_of_cell h.c0
theorem IsSp.mlt (h : IsSp w s m P T G) : m < w.heap.size := h.map.choose_spec.lt
theorem IsSp.ne (h : IsSp w s m P T G) : m ≠ s := fun e => by
  obtain ⟨D, hD⟩ := h.map
  obtain ⟨es, clock, hx, _⟩ := hD.own
  have := h.c0
  subst e
  simp [World.cell?, hx] at this
theorem IsSp.mine_lt (h : IsSp w s m P T G) {b : Nat} (hb : Mine s m G b) : b < w.heap.size := by
  rcases hb with rfl | rfl | ⟨k, l, e⟩
  · exact h.slt
  · exact h.mlt
  · exact (h.page k b l e).2.2.2.1
/-- A space stays while others' blocks are written. -/
theorem IsSp.kept (h : IsSp w s m P T G) {O : Nat → Prop} (hk : Kept w w' O) (hO : ∀ b, Mine s m G b → ¬ O b) : IsSp w' s m P T G := by
  have hs := hO s (Or.inl rfl)
  have hm := hO m (Or.inr (Or.inl rfl))
  obtain ⟨D, hD⟩ := h.map
  refine ⟨hk.cell_some h.c0 hs, hk.cell_some h.c1 hs, hk.cell_some h.c2 hs, (hk.frozen (p := ⟨s, 2, none⟩) h.slt hs).trans h.f2, ⟨D, hD.kept (hk.block m h.mlt hm)⟩, h.pos, h.top, fun k g l e => ?_, h.inj⟩
  obtain ⟨h1, h2, h3, h4, h5⟩ := h.page k g l e
  exact ⟨h1, hk.own h2 h4 (hO g (Or.inr (Or.inr ⟨k, l, e⟩))), h3, Nat.lt_of_lt_of_le h4 hk.size, h5⟩
theorem IsSp.drew (h : IsSp w s m P T G) : IsSp w.drew s m P T G := h.kept (O := fun _ => False) (Kept.refl _ _).drew (fun _ _ h => h)
theorem IsSp.drewN (h : IsSp w s m P T G) (n : Nat) : IsSp (w.drewN n) s m P T G := h.kept (O := fun _ => False) ((Kept.refl _ _).drewN n) (fun _ _ h => h)
theorem IsSp.alloc (h : IsSp w s m P T G) (o : Obj) : IsSp (w.alloc o) s m P T G := h.kept (O := fun _ => False) ((Kept.refl _ _).alloc o) (fun _ _ h => h)

/-- 'page, ok := s.laid[key]', of a page that is laid. -/
theorem IsSp.look (h : IsSp w s m P T G) (k g : Nat) (l : List UInt8) (e : G k = some (g, l)) : ∃ c, 4096 ≤ c ∧ ∀ W : World, W.heap[m]? = w.heap[m]? →
    (Instr.lookup 76 (.map (some m)) (keyV k) true).run Try.prog W = .ok (.tuple #[.slice (some ⟨g, 0, none⟩) 4096 c, .bool true]) W ∧
    (Instr.lookup 76 (.map (some m)) (keyV k) false).run Try.prog W = .ok (.slice (some ⟨g, 0, none⟩) 4096 c) W := by
  obtain ⟨D, hD⟩ := h.map
  have hk := (h.page k g l e).1
  have ht := h.top
  have hat := fun zd => (hD.at' k hk zd).trans (by rw [e])
  obtain ⟨es, clock, hb, F, _, rfl⟩ := hD.own
  have hn : es.toList.Pairwise (fun x y => x.key ≠ y.key) := ((MapKept.stamped_iff es clock).1 F.stamped).2.2
  have uniq : ∀ {x y : MapEntry}, x ∈ es.toList → y ∈ es.toList → x.key = y.key → x = y := fun {x y} hx hy hxy => by
    obtain ⟨i, hi, rfl⟩ := List.getElem_of_mem hx
    obtain ⟨j, hj, rfl⟩ := List.getElem_of_mem hy
    rcases Nat.lt_trichotomy i j with h1 | h1 | h1
    · exact absurd hxy (List.pairwise_iff_getElem.1 hn i j hi hj h1)
    · subst h1; rfl
    · exact absurd hxy.symm (List.pairwise_iff_getElem.1 hn j i hj hi h1)
  rcases Maps.fit_look true keyed Try.underlying76 (zero32 w) hb F (key_of k (by omega)) with ⟨_, hno, hz⟩ | ⟨e0, y, hm0, hke, hr1, hR, hy, _⟩
  · have := (hz .nil).symm.trans (hat .nil)
    cases this
  · have hyy : y.1 = .lit (.int .u64 (g : Int)) := (hy .nil).symm.trans (hat .nil)
    obtain ⟨c, hv, hc⟩ := pageEl_lit (ps := y.2) (g := g) (v := e0.val) (by rw [hR, ← hyy])
    refine ⟨c, hc, fun W hW => ?_⟩
    have hbW := hW.trans hb
    have both : ∀ cc, (Instr.lookup 76 (.map (some m)) (keyV k) cc).run Try.prog W = .ok (if cc then .tuple #[e0.val, .bool true] else e0.val) W := fun cc => by
      rcases Maps.fit_look cc keyed Try.underlying76 (zero32 W) hbW F (key_of k (by omega)) with ⟨_, hno, hz⟩ | ⟨e1, y1, hm1, hke1, hr2, _⟩
      · exact absurd hke (hno e0 hm0)
      · rw [hr2, uniq hm1 hm0 (hke1.trans hke.symm)]
    have b1 := both true
    have b2 := both false
    simp only [if_true, Bool.false_eq_true, if_false, hv] at b1 b2
    exact ⟨b1, b2⟩
/-- .. of one that isn't. -/
theorem IsSp.look_no (h : IsSp w s m P T G) (k : Nat) (hk : k < P) (e : G k = none) :
    (Instr.lookup 76 (.map (some m)) (keyV k) true).run Try.prog w = .ok (.tuple #[.slice none 0 0, .bool false]) w := by
  obtain ⟨D, hD⟩ := h.map
  have ht := h.top
  have hat := fun zd => (hD.at' k hk zd).trans (by rw [e])
  obtain ⟨v, ps, hrun, hv⟩ := hD.own.look_ok keyed Try.underlying76 (zero32 w) (zd := .nil) (zp := []) rfl (key_of k (by omega))
  rw [hat] at hv
  rw [Maps.has_false_of_atKey hat] at hrun
  rw [pageEl_nil hv] at hrun
  exact hrun
end
end Go.Proofs.Ytmagdhcpbofkbaa
/-
  A space in memory, behind each thing that is done to it: a page laid, bytes of a page written, ticks counted.
-/
namespace Go.Proofs.Ytmagdhcpbofkbaa
open Go.ChangeShapes Go.WideShapes Go.ChangeAt Go.RowKit
open Go.Maps (Keyed)
set_option linter.unusedVariables false
set_option maxRecDepth 20000

section
variable {w w' : World} {s m P T : Nat} {G : Pgs}
theorem IsSp.lay (h : IsSp w s m P T G) (k : Nat) (hk : k < P) (e : G k = none) (g c : Nat) (hc : 4096 ≤ c) (l : List UInt8) (hl : l.length = 4096) (ho : Own w g l) (hg : g < w.heap.size) (hn : ¬ Mine s m G g) :
    ∃ w2, (Instr.mapUpdate 76 (.map (some m)) (keyV k) (.slice (some ⟨g, 0, none⟩) 4096 c)).run Try.prog w = .ok () w2 ∧ IsSp w2 s m P T (setG G k (g, l)) ∧ w.grownBy w2 (some m) := by
  obtain ⟨D, hD⟩ := h.map
  have ht := h.top
  have hle := cntOf_le G P
  have hroom : Maps.size D < maxLen := by rw [hD.cnt]; unfold maxLen; omega
  obtain ⟨w2, hrun, hown, hgr⟩ := hD.own.update keyed Try.underlying76 hroom (key_of k (by omega)) (pageEl_mk g c hc)
  have hmap : Maps.IsMap D := hD.own.isMap
  have hkl : WideAt.IsKeyLit (keyL k) := keyed.key (key_of k (by omega))
  have hat := fun zd => (hD.at' k hk zd).trans (by rw [e])
  have hhas := Maps.has_false_of_atKey hat
  have hsz : Maps.size (D.put (keyL k) (.lit (.int .u64 (g : Int)))) = Maps.size D + 1 := by
    rw [Maps.size_put (hD.own.tidy keyed), hhas]
    simp
  have hgs : g ≠ s := fun e => hn (Or.inl e)
  have hgm : g ≠ m := fun e => hn (Or.inr (Or.inl e))
  have hms := h.ne
  have kp : Kept w w2 (fun b => b = m) := (Kept.refl _ _).grown hgr (fun b e _ => by injection e with e; exact e.symm)
  refine ⟨w2, hrun, ⟨kp.cell_some h.c0 (fun e => hms e.symm), kp.cell_some h.c1 (fun e => hms e.symm), kp.cell_some h.c2 (fun e => hms e.symm), (kp.frozen (p := ⟨s, 2, none⟩) h.slt (fun e => hms e.symm)).trans h.f2,
    ⟨_, ⟨exact_size hown, fun j hj zd => ?_, fun kl hkl' => ?_, ?_⟩⟩, h.pos, h.top, fun j gj lj ej => ?_, fun j j' gj lj lj' e1 e2 => ?_⟩, hgr⟩
  · by_cases ej : j = k
    · subst ej
      rw [Maps.atKey_put_same hmap hkl, setG_same]
    · rw [Maps.atKey_put_other (fun e => ej (keyL_inj (by omega) (by omega) e)), setG_other G _ ej]
      exact hD.at' j hj zd
  · by_cases ek : kl = keyL k
    · exact ⟨k, hk, ek⟩
    · rw [Maps.has_put_other ek] at hkl'
      exact hD.keys kl hkl'
  · rw [hsz, hD.cnt, cntOf_setG G k _ P e, if_pos hk]
  · by_cases ej' : j = k
    · subst ej'
      rw [setG_same] at ej
      injection ej with ej
      injection ej with e1 e2
      subst e1 e2
      exact ⟨hk, kp.own ho hg hgm, hl, Nat.lt_of_lt_of_le hg kp.size, hgs, hgm⟩
    · rw [setG_other G _ ej'] at ej
      obtain ⟨h1, h2, h3, h4, h5, h6⟩ := h.page j gj lj ej
      exact ⟨h1, kp.own h2 h4 h6, h3, Nat.lt_of_lt_of_le h4 kp.size, h5, h6⟩
  · by_cases ej : j = k
    · by_cases ej' : j' = k
      · omega
      · subst ej
        rw [setG_same] at e1
        rw [setG_other G _ ej'] at e2
        injection e1 with e1
        injection e1 with e1 _
        exact absurd (Or.inr (Or.inr ⟨j', lj', e1 ▸ e2⟩)) hn
    · by_cases ej' : j' = k
      · subst ej'
        rw [setG_same] at e2
        rw [setG_other G _ ej] at e1
        injection e2 with e2
        injection e2 with e2 _
        exact absurd (Or.inr (Or.inr ⟨j, lj, e2 ▸ e1⟩)) hn
      · rw [setG_other G _ ej] at e1
        rw [setG_other G _ ej'] at e2
        exact h.inj j j' gj lj lj' e1 e2

/-- Bytes of a page that is laid. -/
theorem IsSp.write (h : IsSp w s m P T G) (k g : Nat) (l : List UInt8) (e : G k = some (g, l)) (o : Nat) (p : List UInt8) (hp : o + p.length ≤ 4096) :
    IsSp (w.setCells g o (u8s p)) s m P T (setG G k (g, M.splice l o p)) := by
  obtain ⟨hkP, ho, hl, hg, hgs, hgm⟩ := h.page k g l e
  have kp : Kept w (w.setCells g o (u8s p)) (fun b => b = g) := (Kept.refl _ (fun b => b = g)).setCells (g := g) (fun _ => rfl) _ _
  obtain ⟨D, hD⟩ := h.map
  have hD' := hD.kept (w' := w.setCells g o (u8s p)) (kp.block m h.mlt (fun e => hgm e.symm))
  have fs : ¬ (s = g) := fun e => hgs e.symm
  refine ⟨kp.cell_some h.c0 fs, kp.cell_some h.c1 fs, kp.cell_some h.c2 fs, (kp.frozen (p := ⟨s, 2, none⟩) h.slt fs).trans h.f2, ⟨D, ⟨hD'.own, fun j hj zd => ?_, hD.keys, ?_⟩⟩, h.pos, h.top, fun j gj lj ej => ?_, fun j j' gj lj lj' e1 e2 => ?_⟩
  · rw [hD.at' j hj zd]
    by_cases ej : j = k
    · subst ej
      rw [setG_same, e]
    · rw [setG_other G _ ej]
  · rw [hD.cnt, cntOf_setG' G k _ P (by rw [e]; rfl)]
  · by_cases ej' : j = k
    · subst ej'
      rw [setG_same] at ej
      injection ej with ej
      injection ej with e1 e2
      subst e1 e2
      exact ⟨hkP, ho.setCells o p (by omega), (M.splice_length l o p (by omega)).trans hl, Nat.lt_of_lt_of_le hg kp.size, hgs, hgm⟩
    · rw [setG_other G _ ej'] at ej
      obtain ⟨h1, h2, h3, h4, h5, h6⟩ := h.page j gj lj ej
      refine ⟨h1, kp.own h2 h4 (fun eg => ej' ?_), h3, Nat.lt_of_lt_of_le h4 kp.size, h5, h6⟩
      exact h.inj j k g lj l (eg ▸ ej) e
  · have back : ∀ {i : Nat} {gi : Nat} {li : List UInt8}, setG G k (g, M.splice l o p) i = some (gi, li) → ∃ li', G i = some (gi, li') := by
      intro i gi li hi
      by_cases ei : i = k
      · subst ei
        rw [setG_same] at hi
        injection hi with hi
        injection hi with hi _
        exact ⟨l, hi ▸ e⟩
      · rw [setG_other G _ ei] at hi
        exact ⟨li, hi⟩
    obtain ⟨_, b1⟩ := back e1
    obtain ⟨_, b2⟩ := back e2
    exact h.inj j j' gj _ _ b1 b2

theorem IsSp.tick (h : IsSp w s m P T G) (T' : Nat) (x : Int) (hx : x = (T' : Int)) : IsSp (w.setCell ⟨s, 2, none⟩ (.int .i64 x)) s m P T' G := by
  subst hx
  have kp : Kept w (w.setCell ⟨s, 2, none⟩ (.int .i64 (T' : Int))) (fun b => b = s) := (Kept.refl _ (fun b => b = s)).setCell (p := ⟨s, 2, none⟩) (fun _ => rfl) _
  obtain ⟨D, hD⟩ := h.map
  refine ⟨?_, ?_, World.cell?_setCell_same _ _ _ h.c2, (World.frozen?_setCell _ _ _ _).trans h.f2, ⟨D, hD.kept (kp.block m h.mlt h.ne)⟩, h.pos, h.top, fun k g l e => ?_, h.inj⟩
  · rw [World.cell?_setCell_other _ _ _ _ (by simp)]; exact h.c0
  · rw [World.cell?_setCell_other _ _ _ _ (by simp)]; exact h.c1
  · obtain ⟨h1, h2, h3, h4, h5, h6⟩ := h.page k g l e
    exact ⟨h1, kp.own h2 h4 h5, h3, Nat.lt_of_lt_of_le h4 kp.size, h5, h6⟩

theorem Mine.of_setG {k g : Nat} {l : List UInt8} {b : Nat} (h : Mine s m (setG G k (g, l)) b) : Mine s m G b ∨ b = g := by
  rcases h with h | h | ⟨j, l', e⟩
  · exact Or.inl (Or.inl h)
  · exact Or.inl (Or.inr (Or.inl h))
  · by_cases ej : j = k
    · subst ej
      rw [setG_same] at e
      injection e with e
      injection e with e _
      exact Or.inr e.symm
    · rw [setG_other G _ ej] at e
      exact Or.inl (Or.inr (Or.inr ⟨j, l', e⟩))
end
end Go.Proofs.Ytmagdhcpbofkbaa
/-
  What the small functions of package space come to, and those of bits that it calls.
-/
namespace Go.Proofs.Ytmagdhcpbofkbaa
open Go.ChangeShapes Go.WideShapes Go.ChangeAt Go.RowKit
set_option linter.unusedVariables false
set_option maxRecDepth 20000

theorem add_any (a b : Nat) (ha : a < 18446744073709551616) (hb : b < 18446744073709551616) (w : World) :
    Calls Try.prog 92 #[.int .u64 a, .int .u64 b] w fun e w' => e = .returned (.tuple #[.int .u64 (M.addV a b : Nat), .bool (M.addB a b)]) ∧ w = w' := by
  have hw := wrapU ((a : Int) + b)
  have H := Lib.hid hw; clear hw
  go_enter Try.func92, Try.ntmps92
  go_wp2
  · rename_i h
    go_ret2
    have := H.out
    have hlt : ¬ (a + b < 18446744073709551616) := by omega
    exact ⟨ret2 (by simp [M.addV, hlt]) (by simp [M.addB]; omega), rfl⟩
  · rename_i h
    go_ret2
    have := H.out
    have hlt : a + b < 18446744073709551616 := by omega
    exact ⟨ret2 (by simp [M.addV, hlt]; omega) (by simp [M.addB]; omega), rfl⟩
theorem in_any (a b z : Nat) (ha : a < 18446744073709551616) (hb : b < 18446744073709551616) (w : World) :
    Calls Try.prog 78 #[.int .u64 a, .int .u64 b, .int .u64 z] w fun e w' => e = .returned (.bool (M.inB a b z)) ∧ w = w' := by
  go_enter Try.func78, Try.ntmps78
  go_wp2_with (go_at_call 92; refine (add_any _ _ ha hb _).mono ?_; rintro e w' ⟨rfl, rfl⟩)
  all_goals go_ret
  all_goals exact ⟨retB (by simp [M.inB, *]), rfl⟩

theorem pages_any {w : World} {s m P T : Nat} {G : Pgs} (h : IsSp w s m P T G) :
    Calls Try.prog 59 #[.pointer (some ⟨s, 0, none⟩)] w fun e w' => e = .returned (.int .i64 (P : Int)) ∧ w = w' := by
  have c0 := h.c0
  clear h
  go_enter Try.func59, Try.ntmps59
  go_wp2
  go_ret
  exact ⟨rfl, rfl⟩
theorem pages_nil (w : World) : Calls Try.prog 59 #[.pointer none] w fun e w' => e = .returned (.int .i64 0) ∧ w = w' := by
  go_enter Try.func59, Try.ntmps59
  go_wp2
  go_ret
  exact ⟨rfl, rfl⟩
theorem size_any {w : World} {s m P T : Nat} {G : Pgs} (h : IsSp w s m P T G) :
    Calls Try.prog 79 #[.pointer (some ⟨s, 0, none⟩)] w fun e w' => e = .returned (.int .u64 ((P * 4096 : Nat) : Int)) ∧ w = w' := by
  have ht := h.top
  go_enter Try.func79, Try.ntmps79
  go_wp2_with (go_at_call 59; refine (pages_any h).mono ?_; rintro e w' ⟨rfl, rfl⟩)
  go_ret
  exact ⟨ret1 (by omega), rfl⟩
theorem size_nil (w : World) : Calls Try.prog 79 #[.pointer none] w fun e w' => e = .returned (.int .u64 0) ∧ w = w' := by
  go_enter Try.func79, Try.ntmps79
  go_wp2_with (go_at_call 59; refine (pages_nil _).mono ?_; rintro e w' ⟨rfl, rfl⟩)
  go_ret
  exact ⟨rfl, rfl⟩
theorem within_any {w : World} {s m P T : Nat} {G : Pgs} (h : IsSp w s m P T G) (a n : Nat) (ha : a < 18446744073709551616) (hn : n < 18446744073709551616) :
    Calls Try.prog 60 #[.pointer (some ⟨s, 0, none⟩), .int .u64 a, .int .u64 n] w fun e w' => e = .returned (.bool (M.inB a n (P * 4096))) ∧ w = w' := by
  go_enter Try.func60, Try.ntmps60
  go_wp2_with fail
  refine (size_any h).mono ?_
  rintro e w' ⟨rfl, rfl⟩
  go_wp2_with fail
  refine (in_any _ _ _ ha hn _).mono ?_
  rintro e w' ⟨rfl, rfl⟩
  go_wp2
  go_ret
  exact ⟨rfl, rfl⟩
theorem within_nil (w : World) (a n : Nat) :
    Calls Try.prog 60 #[.pointer none, .int .u64 a, .int .u64 n] w fun e w' => e = .returned (.bool false) ∧ w = w' := by
  go_enter Try.func60, Try.ntmps60
  go_wp2
  go_ret
  exact ⟨rfl, rfl⟩
theorem key_any (k : Nat) (hk : k < 4503599627370496) (w : World) :
    Calls Try.prog 80 #[.int .u64 (k : Int)] w fun e w' => e = .returned (keyV k) ∧ Below w.heap.size w w' := by
  go_enter Try.func80, Try.ntmps80
  go_wp2
  refine bodyPost_ret (v := .agg #[.int .i64 ((k : Int) / 1024), .int .i64 ((k : Int) % 1024)]) ?_ rfl ?_
  · simp [results, go_sem]
  refine ⟨?_, (Below.refl _ _).alloc (Nat.le_refl _) _⟩
  simp [keyV]
theorem isSp_made (w : World) (P : Nat) (h1 : 1 ≤ P) (h2 : P ≤ 1048576) (x : Int) (hx : x = (P : Int)) :
    IsSp ((w.alloc (.map #[] 0)).alloc (.cells #[.int .i64 x, .map (some w.heap.size), .int .i64 0] 78)) (w.heap.size + 1) w.heap.size P 0 (fun _ => none) := by
  subst hx
  have hs : (w.alloc (.map #[] 0)).heap.size = w.heap.size + 1 := by simp
  have c : ∀ o, ((w.alloc (.map #[] 0)).alloc (.cells #[.int .i64 (P : Int), .map (some w.heap.size), .int .i64 0] 78)).cell? ⟨w.heap.size + 1, o, none⟩ = (#[.int .i64 (P : Int), .map (some w.heap.size), .int .i64 0] : Array Value)[o]? := fun o => by
    rw [← hs]; exact World.cell?_alloc_mark _ _ _ _ _
  have f : ∀ o, ((w.alloc (.map #[] 0)).alloc (.cells #[.int .i64 (P : Int), .map (some w.heap.size), .int .i64 0] 78)).frozen? ⟨w.heap.size + 1, o, none⟩ = false := fun o => by
    rw [← hs, World.frozen?_alloc_mark]; simp
  have hm : ((w.alloc (.map #[] 0)).alloc (.cells #[.int .i64 (P : Int), .map (some w.heap.size), .int .i64 0] 78)).ownsMap Try.prog 112 pageEl w.heap.size 0 (.map []) :=
    (World.ownsMap_made w Try.prog 112 pageEl).alloc _
  refine ⟨(c 0).trans rfl, (c 1).trans rfl, (c 2).trans rfl, f 2, ⟨.map [], hm, fun k _ zd => rfl, fun kl h => ?_, ?_⟩, h1, h2, fun k g l e => ?_, fun k j g l l' e => ?_⟩
  · simp [Maps.has] at h
  · have : ∀ n, cntOf (fun _ => none) n = 0 := fun n => by
      induction n with
      | zero => rfl
      | succ n ih => unfold cntOf; rw [ih]; rfl
    rw [this]
    rfl
  · cases e
  · cases e
theorem new_any (x : Int) (P : Nat) (hP : (P : Int) = min (max x 1) 1048576) (w : World) :
    Calls Try.prog 22 #[.int .i64 x] w fun e w' => ∃ s m, e = .returned (.pointer (some ⟨s, 0, none⟩)) ∧ IsSp w' s m P 0 (fun _ => none) ∧ w.heap.size ≤ s ∧ w.heap.size ≤ m ∧ Below w.heap.size w w' := by
  have HP := Lib.hid hP; clear hP
  have hmm := @run_makeMap Try.prog
  go_enter Try.func22, Try.ntmps22
  go_wp2
  all_goals go_ret
  all_goals (have hP := HP.out; refine ⟨_, rfl, _, isSp_made w P (by omega) (by omega) _ (by omega), by omega, Nat.le_refl _, ((Below.refl _ _).alloc (Nat.le_refl _) _).alloc (by simp) _⟩)
end Go.Proofs.Ytmagdhcpbofkbaa
/-
  'touch', and 'each' for whatever it is handed.
-/
namespace Go.Proofs.Ytmagdhcpbofkbaa
open Go.ChangeShapes Go.WideShapes Go.ChangeAt Go.RowKit
set_option linter.unusedVariables false
set_option maxRecDepth 20000

theorem touch_any {w : World} {s m P T : Nat} {G : Pgs} (h : IsSp w s m P T G) (a n : Nat) (ha : a + n ≤ 4294967296) (hT : T + M.touched a n < 9223372036854775808) :
    Calls Try.prog 63 #[.pointer (some ⟨s, 0, none⟩), .int .u64 a, .int .u64 n] w fun e w' => e = .returned (.tuple #[]) ∧ IsSp w' s m P (T + M.touched a n) G ∧ Kept w w' (fun b => b = s) := by
  have c2 := h.c2
  have f2 := h.f2
  have Hs := Lib.hid h; clear h
  by_cases hn : n < 1
  · obtain rfl : n = 0 := by omega
    have ht : M.touched a 0 = 1 := rfl
    rw [ht] at hT ⊢
    go_enter Try.func63, Try.ntmps63
    go_wp2
    go_end0
    exact ⟨rfl, Hs.out.tick (T + 1) _ (by omega), (Kept.refl _ (fun b => b = s)).setCell (p := ⟨s, 2, none⟩) (fun _ => rfl) _⟩
  · go_enter Try.func63, Try.ntmps63
    go_wp2
    go_end0
    have hw : wrap64 ((T : Int) + (((a : Int) + n - 1) / 4096 - (a : Int) / 4096 + 1)) = ((T + M.touched a n : Nat) : Int) := by
      have e : M.touched a n = (a + n - 1) / 4096 - a / 4096 + 1 := by unfold M.touched; rw [if_neg (by omega)]
      rw [e] at hT ⊢
      unfold wrap64
      omega
    exact ⟨rfl, Hs.out.tick _ _ hw, (Kept.refl _ (fun b => b = s)).setCell (p := ⟨s, 2, none⟩) (fun _ => rfl) _⟩

theorem key_at (z : Int) (k : Nat) (hz : z = (k : Int)) (hk : k < 4503599627370496) (w : World) :
    Calls Try.prog 80 #[.int .u64 z] w fun e w' => e = .returned (keyV k) ∧ Below w.heap.size w w' := by
  subst hz
  exact key_any k hk w

theorem each_any (F : Nat) (caps : Array Value) (a n : Nat) (ha : a + n ≤ 4294967296) (hF : ∀ args w, (callFunc F args).run Try.prog w = .ok (.enter F args) w) (Inv : Nat → World → Prop) (w : World) (h0 : Inv 0 w)
    (hdrop : ∀ d wr wr', Inv d wr → Below wr.heap.size wr wr' → Inv d wr')
    (hstep : ∀ d wr, d < n → Inv d wr → ∀ c, c = min (4096 - (a + d) % 4096) (n - d) →
      Calls Try.prog F (#[keyV ((a + d) / 4096), .int .u64 (((a + d) % 4096 : Nat) : Int), .int .u64 (((a + d) % 4096 + c : Nat) : Int)] ++ caps) wr fun e w' => e = .returned (.tuple #[]) ∧ Inv (d + c) w') :
    Calls Try.prog 61 #[.int .u64 a, .int .u64 n, .func (.func F) #[] caps] w fun e w' => e = .returned (.tuple #[]) ∧ Inv n w' := by
  go_enter Try.func61, Try.ntmps61
  go_wp2_with fail
  go_loopw [0, 1] (fun x y wr => ∃ d : Nat, d ≤ n ∧ x = .int .u64 ((a + d : Nat) : Int) ∧ y = .int .u64 ((n - d : Nat) : Int) ∧ Inv d wr) (fun _ y _ => (intOf y).toNat)
  case atStart => exact ⟨0, by omega, by simp, by simp, h0⟩
  case round =>
    obtain ⟨d, hd, rfl, rfl, hI⟩ := hrel
    obtain ⟨x, hx⟩ : ∃ x, x = a + d := ⟨_, rfl⟩
    obtain ⟨y, hy⟩ : ∃ y, y = n - d := ⟨_, rfl⟩
    rw [← hx, ← hy]
    have hs := hstep d
    rw [← hx, ← hy] at hs
    have HX := Lib.hid (show x = a + d ∧ y = n - d from ⟨hx, hy⟩)
    have HD := Lib.hid hdrop
    have HS := Lib.hid hs
    have hx32 : x + y ≤ 4294967296 := by omega
    clear hs hstep hdrop hx hy h0
    by_cases h0 : y = 0
    · subst h0
      go_wp2
      go_end0
      obtain rfl : d = n := by have := HX.out; omega
      exact ⟨rfl, hI⟩
    · have hy0 : 0 < y := by omega
      have step : ∀ c w1, c = min (4096 - x % 4096) y → Below wr.heap.size wr w1 → Calls Try.prog F (#[keyV (x / 4096), .int .u64 ((x % 4096 : Nat) : Int), .int .u64 ((x % 4096 + c : Nat) : Int)] ++ caps) w1 fun e w' => e = .returned (.tuple #[]) ∧ Inv (d + c) w' :=
        fun c w1 hc hb => HS.out w1 (by have := HX.out; omega) (HD.out d wr w1 hI hb) c hc
      have ST := Lib.hid step
      clear step HS HD
      by_cases hc : x % 4096 + y ≤ 4096
      · go_wp2_with fail
        refine (key_at _ (x / 4096) (by omega) (by omega) _).mono ?_
        rintro e w1 ⟨rfl, hb1⟩
        go_wp2_with fail
        have := ST.out y w1 (by omega) hb1
        refine Calls.mono (by simpa using this) ?_
        rintro e w2 ⟨rfl, hI2⟩
        go_wp2_with fail
        go_roundw
        case rel => exact ⟨d + y, by have := HX.out; omega, by have := HX.out; congr 1; omega, by have := HX.out; congr 1; omega, hI2⟩
        case measure => simp [intOf]; omega
      · obtain ⟨c, hcc⟩ : ∃ c, c = 4096 - x % 4096 := ⟨_, rfl⟩
        have HC := Lib.hid hcc; clear hcc
        go_wp2_with fail
        refine (key_at _ (x / 4096) (by omega) (by omega) _).mono ?_
        rintro e w1 ⟨rfl, hb1⟩
        go_wp2_with fail
        have hc4 : x % 4096 + c = 4096 := by have := HC.out; omega
        have := ST.out c w1 (by have := HC.out; omega) hb1
        rw [hc4] at this
        refine Calls.mono (by simpa using this) ?_
        rintro e w2 ⟨rfl, hI2⟩
        go_wp2_with fail
        go_roundw
        case rel => exact ⟨d + c, by have := HX.out; omega, by have := HX.out; congr 1; omega, by have := HX.out; congr 1; omega, hI2⟩
        case measure => simp [intOf]; omega
end Go.Proofs.Ytmagdhcpbofkbaa
/-
  What Load's closure does to one page's bytes.
-/
namespace Go.Proofs.Ytmagdhcpbofkbaa
open Go.ChangeShapes Go.WideShapes Go.ChangeAt Go.RowKit
set_option linter.unusedVariables false
set_option maxRecDepth 20000

/-- 'page[from:to]'. -/
theorem cut_page (W : World) (g c f t : Nat) (hc : 4096 ≤ c) (hf : f < t) (ht : t ≤ 4096) :
    (Instr.slice 22 (.slice (some ⟨g, 0, none⟩) 4096 c) (some (.int .u64 (f : Int))) (some (.int .u64 (t : Int))) none).run Try.prog W = .ok (.slice (some ⟨g, f, none⟩) (t - f) (c - f)) W := by
  rw [run_slice_lh W 22 (some ⟨g, 0, none⟩) 4096 c und22 .u64 .u64 f t (by omega) (by omega) (by omega), elem22, size5]
  simp only [Result.andThen_ok, sliced, Int.toNat_natCast]
  rw [if_neg (by omega)]
  have : (⟨g, 0, none⟩ : Addr).add f = ⟨g, f, none⟩ := by unfold Addr.add; split <;> simp_all
  simp [this]

/-- 'rest[i:]', by a number without a sign. -/
theorem cut_u (A : Option Addr) (n cap i : Nat) (hi : i ≤ n) (hn : n ≤ cap) : ∃ A', (∀ W, (Instr.slice 22 (.slice A n cap) (some (.int .u64 (i : Int))) none none).run Try.prog W = .ok (.slice A' (n - i) (cap - i)) W) ∧
    (∀ (W : World) (xs : List Value), xs.length = n → Lies W A xs → Lies W A' (xs.drop i)) ∧ (∀ a, i < cap → A = some a → A' = some (a.add i)) ∧ (∀ a, A' = some a → ∃ a', A = some a' ∧ a.block = a'.block) := by
  refine ⟨if cap = i then A else A.map (·.add (i * 1)), fun W => by rw [run_slice_l W 22 A n cap und22 .u64 i (by omega) (by omega), elem22, size5]; simp only [Result.andThen_ok, sliced, Int.toNat_natCast], fun W xs hxn h hn => ?_, fun a hc e => ?_, fun a e => ?_⟩
  · have hl : i < xs.length := by simp at hn; omega
    obtain ⟨ad, rfl, hc⟩ := h (by omega)
    refine ⟨ad.add i, by rw [if_neg (by omega)]; simp, fun j hj => ?_⟩
    rw [add_add, hc (i + j) (by simp at hj; omega)]
    simp
  · subst e
    rw [if_neg (by omega)]
    simp
  · split at e
    · exact ⟨a, e, rfl⟩
    · cases A with
      | none => simp at e
      | some a' =>
        refine ⟨a', rfl, ?_⟩
        simp at e
        rw [← e, block_of_add]

/-- A region all of whose operations but the last ones read: the world of the draw under a name of its own. -/
theorem still_tail {P : Program} {id : Nat} {Q : Exit → Act → World → Prop} {a : Act} {w : World} {l : List Oper} (n : Nat) (hm : P.follows .mixedOrders = true) (hB : Region.lexTailB .any l.toArray n = true)
    (h : ∀ w', w' = w.drew → wpStill P l.toArray w' (fun a' => wpList P l.toArray Q (l.drop n) a' w') (l.take n) a) : (Code.region id l.toArray true).wp P Q a w :=
  wp_region_still_tail n hm hB (h _ rfl)

theorem splice_fill (pre p : List UInt8) (d r r' : Nat) (hd : pre.length = d) (hr : r = p.length + r') : M.splice (pre ++ List.replicate r 0) d p = pre ++ p ++ List.replicate r' 0 := by
  unfold M.splice
  rw [List.take_append_of_le_length (by omega), List.take_of_length_le (by omega), List.drop_append, List.drop_of_length_le (by omega), List.nil_append, List.drop_replicate, List.append_assoc]
  congr 3
  omega
/-- 'copy' into a row that may be written. -/
theorem copy_own (W : World) (g o dl dc : Nat) (L : List UInt8) (ho : Own W g L) (A : Option Addr) (sl sc : Nat) (xs p : List UInt8) (hp : p.length = min sl dl) (hpl : o + p.length ≤ L.length) (hxs : Lies W A (u8s xs)) (hx : p = xs.take p.length) (h0 : 0 < p.length) (ty : TypeId) :
    (Builtin.copy_ #[22, 22] ty #[.slice (some ⟨g, o, none⟩) dl dc, .slice A sl sc]).run Try.prog W = .ok (goInt p.length) (W.setCells g o (u8s p)) := by
  have hxl : p.length ≤ xs.length := by
    have := congrArg List.length hx
    simp at this
    omega
  obtain ⟨a, rfl, hc⟩ := hxs (by rw [u8s_length]; omega)
  have := run_copy_cells (P := Try.prog) W 22 22 ty 5 g o dl dc a sl sc (u8s p) Try.underlying22 (by kernel_rfl) (by rw [u8s_length]; exact hp) (fun j v hv => ?_) (fun j hj => ?_) (fun j hj => ?_) (fun v hv => ?_)
  · rw [u8s_length] at this
    exact this
  · have hj : j < (u8s p).length := (List.getElem?_eq_some_iff.1 hv).1
    rw [u8s_length] at hj
    have h1 := hc j (by rw [u8s_length]; omega)
    rw [h1]
    have e : (u8s p)[j]? = (u8s xs)[j]? := by
      rw [hx, u8s_take, List.getElem?_take_of_lt (by omega)]
    rw [e, List.getElem?_eq_getElem (by rw [u8s_length]; omega)] at hv
    exact hv
  · rw [u8s_length] at hj
    rw [ho.1 (o + j) (by omega)]
    rfl
  · rw [u8s_length] at hj
    exact ho.2 (o + j) (by omega)
  · unfold u8s at hv
    obtain ⟨b, _, rfl⟩ := List.mem_map.1 hv
    rfl

theorem Own.liesAt {w : World} {g : Nat} {l : List UInt8} (h : Own w g l) (o : Nat) : Lies w (some ⟨g, o, none⟩) (u8s (l.drop o)) := fun hn => ⟨_, rfl, fun j hj => by
  have hj' : j < (l.drop o).length := by simpa [u8s] using hj
  have hj2 : o + j < l.length := by simp at hj'; omega
  have := h.1 (o + j) hj2
  simp only [u8s, List.getElem_map, List.getElem_drop]
  rw [← this]
  congr 1
  unfold Addr.add
  split
  · next e => subst e; rfl
  · simp⟩

theorem load1_any {w : World} {s m P T : Nat} {G : Pgs} (h : IsSp w s m P T G) (bs br gb : Nat) (hbs : w.cell? ⟨bs, 0, none⟩ = some (.pointer (some ⟨s, 0, none⟩)))
    (pre : List UInt8) (d r r' : Nat) (hd : pre.length = d) (hbr : w.cell? ⟨br, 0, none⟩ = some (.slice (some ⟨gb, d, none⟩) r r)) (hfr : w.frozen? ⟨br, 0, none⟩ = false)
    (ho : Own w gb (pre ++ List.replicate r 0)) (k f c : Nat) (hk : k < P) (hc : 0 < c) (hcr : r = c + r') (hf : f + c ≤ 4096) (n1 : gb ≠ br) (n2 : bs ≠ br) (n3 : bs ≠ gb) (n4 : ¬ Mine s m G gb) (n5 : ¬ Mine s m G br) :
    Calls Try.prog 62 #[keyV k, .int .u64 (f : Int), .int .u64 ((f + c : Nat) : Int), .pointer (some ⟨bs, 0, none⟩), .pointer (some ⟨br, 0, none⟩)] w
      fun e w' => e = .returned (.tuple #[]) ∧ ∃ A, w'.cell? ⟨br, 0, none⟩ = some (.slice A r' r') ∧ (0 < r' → A = some ⟨gb, d + c, none⟩) ∧ w'.frozen? ⟨br, 0, none⟩ = false ∧
        Own w' gb ((pre ++ M.rd (bytesOf G) (k * 4096 + f) c) ++ List.replicate r' 0) ∧ Kept w w' (fun b => b = gb ∨ b = br) := by
  have hkey : ∃ ka kb : Int, keyV k = .agg #[.int .i64 ka, .int .i64 kb] := ⟨_, _, rfl⟩
  obtain ⟨ka, kb, hkv⟩ := hkey
  rw [hkv]
  have hgl := ho.lt (by simp; omega)
  have hbl := lt_of_cell hbr
  obtain ⟨t, ht⟩ : ∃ t, t = f + c := ⟨_, rfl⟩
  rw [← ht]
  have HT := Lib.hid ht; clear ht
  have c1 := h.c1
  have hslt := h.slt
  have hbsl := lt_of_cell hbs
  have HH := Lib.hid h
  have HO := Lib.hid ho
  have HN := Lib.hid (show gb ≠ br ∧ bs ≠ br ∧ bs ≠ gb ∧ ¬ Mine s m G gb ∧ ¬ Mine s m G br from ⟨n1, n2, n3, n4, n5⟩)
  clear n1 n2 n3 n4 n5 ho
  go_enter Try.func62, Try.ntmps62
  go_wp2_with fail
  have hk0 := (World.cell?_alloc_mark w #[.int .i64 ka, .int .i64 kb] 112 (0, 0) 0)
  have hk1 := (World.cell?_alloc_mark w #[.int .i64 ka, .int .i64 kb] 112 (0, 0) 1)
  have K1 := Lib.hid ((Kept.refl w (fun b => b = gb ∨ b = br)).alloc (.cells #[.int .i64 ka, .int .i64 kb] 112))
  have h1 := h.alloc (.cells #[.int .i64 ka, .int .i64 kb] 112)
  have o1 := HO.out.alloc hgl (.cells #[.int .i64 ka, .int .i64 kb] 112)
  have b1 := K1.out.cell_some hbs (by have := HN.out; simp; omega)
  have b2 := (World.cell?_alloc_lt w (.cells #[.int .i64 ka, .int .i64 kb] 112) ⟨br, 0, none⟩ hbl).trans hbr
  have b3 := (World.frozen?_of_block (w := w) (w' := w.alloc (.cells #[.int .i64 ka, .int .i64 kb] 112)) (a := ⟨br, 0, none⟩) (Below.heap_alloc w _ br hbl)).trans hfr
  generalize hw1 : w.alloc (.cells #[.int .i64 ka, .int .i64 kb] 112) = w1 at hk0 hk1 K1 h1 o1 b1 b2 b3 ⊢
  clear hw1 c1
  have c1 := h1.c1
  have H1 := Lib.hid h1
  have O1 := Lib.hid o1
  clear h hbs hbr hfr h1 o1
  obtain ⟨A', hcut, _, hadd, _⟩ := cut_u (some ⟨gb, d, none⟩) r r c (by omega) (Nat.le_refl _)
  have hrc : r - c = r' := by omega
  rw [hrc] at hcut
  have HA := Lib.hid (fun (h : c < r) => (hadd _ h rfl).trans (by show some ((⟨gb, d, none⟩ : Addr).add c) = some ⟨gb, d + c, none⟩; unfold Addr.add; split <;> simp_all))
  have hsub : IntKind.u64.wrap ((t : Int) - f) = (c : Int) := by have := HT.out; rw [wrapU]; omega
  have HR := Lib.hid (show r = c + r' ∧ pre.length = d from ⟨hcr, hd⟩)
  clear hrc hadd hcr hd
  rcases hG : G k with _ | ⟨g, l⟩
  · have hl := fun q => (H1.out.drewN q).look_no k hk hG
    rw [hkv] at hl
    have hz := M.rd_none (fun j => (G j).map (·.2)) k f c hf (by simp [hG])
    have HZ := Lib.hid hz
    have HG := Lib.hid hG
    clear hz hG hkv
    go_quiet (fail)
    go_wp2_with fail
    go_end0
    refine ⟨rfl, A', World.cell?_setCell_same _ _ _ b2, fun h => HA.out (by have := HR.out; omega), (World.frozen?_setCell _ _ _ _).trans b3, ?_, (K1.out.drewN nq).setCell (p := ⟨br, 0, none⟩) (fun _ => Or.inr rfl) _⟩
    have hz := HZ.out
    unfold bytesOf
    rw [hz, List.append_assoc, List.replicate_append_replicate, ← HR.out.1]
    exact O1.out.keep (Below.heap_setCell _ _ _ _ (by have := HN.out.1; exact this))
  · obtain ⟨pc, hpc, hl⟩ := H1.out.look k g l hG
    have hpg := H1.out.page k g l hG
    have hl' := fun q => (hl (w1.drewN q) rfl).1
    have hz := M.rd_some (fun j => (G j).map (·.2)) k f c l hpg.2.2.1 hf (by simp [hG])
    rw [hkv] at hl'
    have HZ := Lib.hid hz
    have HG := Lib.hid hG
    have HP := Lib.hid hpg
    clear hz hG hkv hpg hl
    have hcp := fun W => cut_page W g pc f t hpc (by have := HT.out; omega) (by have := HT.out; omega)
    have htf : t - f = c := by have := HT.out; omega
    rw [htf] at hcp
    clear htf
    go_quiet (fail)
    go_wp2_with fail
    refine still_tail 5 (by kernel_rfl) (by kernel_rfl) (fun w3 hw3 => ?_)
    have b2' : w3.cell? ⟨br, 0, none⟩ = some (.slice (some ⟨gb, d, none⟩) r r) := by rw [hw3]; exact b2
    have b3' : w3.frozen? ⟨br, 0, none⟩ = false := by rw [hw3]; exact b3
    have o3 : Own w3 gb (pre ++ List.replicate r 0) := by rw [hw3]; exact O1.out
    have p3 : Own w3 g l := by rw [hw3]; exact HP.out.2.1
    have hpl : ((l.drop f).take c).length = c := by have := HP.out.2.2.1; simp; omega
    have hco := fun ty => copy_own w3 gb d r r _ o3 (some ⟨g, f, none⟩) c (pc - f) (l.drop f) ((l.drop f).take c) (by have := HR.out; rw [hpl]; omega) (by have := HR.out; rw [hpl]; simp; omega) (p3.liesAt f) (by rw [hpl]) (by rw [hpl]; exact hc) ty
    rw [hpl] at hco
    have K3 : Kept w w3 (fun b => b = gb ∨ b = br) := by rw [hw3]; exact (K1.out.drewN nq).drew
    have K3 := Lib.hid K3
    have O3 := Lib.hid (o3.setCells d ((l.drop f).take c) (by have := HR.out; rw [hpl]; simp; omega))
    have hb4 : (w3.setCells gb d (u8s ((l.drop f).take c))).cell? ⟨br, 0, none⟩ = some (.slice (some ⟨gb, d, none⟩) r r) :=
      (World.cell?_setCells_out _ _ _ _ _ (fun e _ => absurd e (fun e => HN.out.1 e.symm))).trans b2'
    have hf4 : (w3.setCells gb d (u8s ((l.drop f).take c))).frozen? ⟨br, 0, none⟩ = false := (World.frozen?_setCells _ _ _ _ _).trans b3'
    have HL := Lib.hid hpl
    clear hpl hw3 o3 p3 hk0 hk1 b1 b2 b3 c1 hl' b3'
    simp only [List.take_succ_cons, List.take_zero, List.drop_succ_cons, List.drop_zero]
    repeat still_step
    refine wpStill_nil ?_
    go_wp2_with fail
    go_end0
    refine ⟨rfl, A', World.cell?_setCell_same _ _ _ hb4, fun h => HA.out (by have := HR.out; omega), (World.frozen?_setCell _ _ _ _).trans hf4, ?_, (K3.out.setCells (g := gb) (fun _ => Or.inl rfl) _ _).setCell (p := ⟨br, 0, none⟩) (fun _ => Or.inr rfl) _⟩
    have hz := HZ.out
    unfold bytesOf
    rw [hz]
    have e : M.splice (pre ++ List.replicate r 0) d ((l.drop f).take c) = pre ++ (l.drop f).take c ++ List.replicate r' 0 := by
      exact splice_fill pre _ d r r' HR.out.2 (by have := HR.out.1; rw [HL.out]; exact this)
    rw [← e]
    exact O3.out.keep (Below.heap_setCell _ _ _ _ (by have := HN.out.1; exact this))
end Go.Proofs.Ytmagdhcpbofkbaa
/-
  What bytes.Repeat comes to, of bytes of a width.
-/
namespace Go.Proofs.Ytmagdhcpbofkbaa
open Go.ChangeShapes Go.WideShapes Go.ChangeAt Go.RowKit
set_option linter.unusedVariables false
set_option maxRecDepth 20000

theorem mask_small (a : Nat) (ha : a < 4294967296) : bits .and .u64 (a : Int) 4294967295 = (a : Int) := by
  have h := bits_and_u64_nat a 4294967295 (by omega) (by omega)
  have e : a &&& 4294967295 = a % 4294967296 := Nat.and_two_pow_sub_one_eq_mod a 32
  rw [e, Nat.mod_eq_of_lt ha] at h
  exact h
theorem mask_zero : bits .and .u64 0 4294967295 = 0 := mask_small 0 (by omega)
theorem mul64_any (x y : Nat) (hx : x ≤ 8) (hy : y ≤ 1048576) (w : World) :
    Calls Try.prog 94 #[.int .u64 x, .int .u64 y] w fun e w' => e = .returned (.tuple #[.int .u64 0, .int .u64 ((x * y : Nat) : Int)]) ∧ w = w' := by
  have m1 := mask_small x (by omega)
  have m2 := mask_small y (by omega)
  have m3 := mask_zero
  have d1 : (x : Int) / 4294967296 = 0 := by omega
  have d2 : (y : Int) / 4294967296 = 0 := by omega
  have hp : (x : Int) * (y : Int) = ((x * y : Nat) : Int) := (Int.natCast_mul x y).symm
  have hb : x * y ≤ 8 * 1048576 := Nat.mul_le_mul hx hy
  generalize x * y = z at *
  have d3 : (z : Int) / 4294967296 = 0 := by omega
  have hw : IntKind.u64.wrap (z : Int) = z := by rw [wrapU]; omega
  go_enter Try.func94, Try.ntmps94
  go_wp2
  go_ret2
  exact ⟨rfl, rfl⟩
theorem mul_any (x y : Nat) (hx : x ≤ 8) (hy : y ≤ 1048576) (w : World) :
    Calls Try.prog 87 #[.int .u64 x, .int .u64 y] w fun e w' => e = .returned (.tuple #[.int .u64 0, .int .u64 ((x * y : Nat) : Int)]) ∧ w = w' := by
  go_enter Try.func87, Try.ntmps87
  go_wp2_with (go_at_call 94; refine (mul64_any x y hx hy _).mono ?_; rintro e w' ⟨rfl, rfl⟩)
  go_ret2
  exact ⟨rfl, rfl⟩
theorem mul_at (x y z : Nat) (hz : x * y = z) (hx : x ≤ 8) (hy : y ≤ 1048576) (w : World) :
    Calls Try.prog 87 #[.int .u64 x, .int .u64 y] w fun e w' => e = .returned (.tuple #[.int .u64 0, .int .u64 (z : Int)]) ∧ w = w' := by
  subst hz
  exact mul_any x y hx hy w

/-- A row of a call's own that is filled from the front. -/
structure Fil (w : World) (g N : Nat) (l : List UInt8) : Prop where
  le : l.length ≤ N
  has : ∀ j (h : j < l.length), w.cell? ⟨g, j, none⟩ = some (.int .u8 (l[j].toNat : Int))
  there : ∀ j, j < N → (w.cell? ⟨g, j, none⟩).isSome = true
  free : ∀ j, j < N → w.frozen? ⟨g, j, none⟩ = false
section
variable {w : World} {g N : Nat} {l : List UInt8}
theorem Fil.own (h : Fil w g N l) : Own w g l := ⟨h.has, fun j hj => h.free j (Nat.lt_of_lt_of_le hj h.le)⟩
theorem Fil.start (w : World) (cs : Array Value) (N : Nat) (hN : N ≤ cs.size) : Fil (w.alloc (.cells cs 5)) w.heap.size N [] := by
  refine ⟨Nat.zero_le _, fun j hj => absurd hj (by simp), fun j hj => ?_, fun j hj => ?_⟩
  · rw [World.cell?_alloc_mark, Array.getElem?_eq_getElem (by omega)]
    rfl
  · rw [World.frozen?_alloc_mark]
    simp
theorem Fil.copy (h : Fil w g N l) (A : Option Addr) (sl sc d dl dc : Nat) (xs p : List UInt8) (hd : d = l.length) (hdl : dl = N - l.length) (hp : p.length = min sl dl) (hxs : Lies w A (u8s xs)) (hx : p = xs.take p.length) (h0 : 0 < p.length) :
    (∀ ty : TypeId, (Builtin.copy_ #[22, 22] ty #[.slice (some ⟨g, d, none⟩) dl dc, .slice A sl sc]).run Try.prog w = .ok (goInt p.length) (w.setCells g d (u8s p))) ∧ Fil (w.setCells g d (u8s p)) g N (l ++ p) := by
  subst hd hdl
  have hle := h.le
  have hpl : l.length + p.length ≤ N := by omega
  have hxl : p.length ≤ xs.length := by
    have := congrArg List.length hx
    simp at this
    omega
  obtain ⟨a, rfl, hc⟩ := hxs (by rw [u8s_length]; omega)
  refine ⟨fun ty => ?_, ⟨by simpa using hpl, fun j hj => ?_, fun j hj => ?_, fun j hj => ?_⟩⟩
  · have := run_copy_cells (P := Try.prog) w 22 22 ty 5 g l.length (N - l.length) dc a sl sc (u8s p) Try.underlying22 (by kernel_rfl) (by rw [u8s_length]; exact hp) (fun j v hv => ?_) (fun j hj => ?_) (fun j hj => ?_) (fun v hv => ?_)
    · rw [u8s_length] at this
      exact this
    · have hj : j < (u8s p).length := (List.getElem?_eq_some_iff.1 hv).1
      rw [u8s_length] at hj
      rw [hc j (by rw [u8s_length]; omega)]
      have e : (u8s p)[j]? = (u8s xs)[j]? := by rw [hx, u8s_take, List.getElem?_take_of_lt (by omega)]
      rw [e, List.getElem?_eq_getElem (by rw [u8s_length]; omega)] at hv
      exact hv
    · rw [u8s_length] at hj
      exact h.there _ (by omega)
    · rw [u8s_length] at hj
      exact h.free _ (by omega)
    · unfold u8s at hv
      obtain ⟨b, _, rfl⟩ := List.mem_map.1 hv
      rfl
  · have hj' : j < l.length + p.length := by simpa using hj
    by_cases h1 : j < l.length
    · rw [World.cell?_setCells_out g (u8s p) l.length w _ (fun _ _ => Or.inl h1), h.has j h1, List.getElem_append_left h1]
    · obtain ⟨i, rfl⟩ : ∃ i, j = l.length + i := ⟨j - l.length, by omega⟩
      rw [World.cell?_setCells_in g (u8s p) l.length w (fun i hi => h.there _ (by rw [u8s_length] at hi; omega)) i (by rw [u8s_length]; omega), List.getElem_append_right (by omega)]
      simp [u8s]
  · by_cases h1 : l.length ≤ j ∧ j < l.length + p.length
    · obtain ⟨i, rfl⟩ : ∃ i, j = l.length + i := ⟨j - l.length, by omega⟩
      rw [World.cell?_setCells_in g (u8s p) l.length w (fun i hi => h.there _ (by rw [u8s_length] at hi; omega)) i (by rw [u8s_length]; omega)]
      rfl
    · rw [World.cell?_setCells_out g (u8s p) l.length w ⟨g, j, none⟩ (fun _ _ => by rw [u8s_length]; show j < _ ∨ _ ≤ j; omega)]
      exact h.there j hj
  · rw [World.frozen?_setCells]
    exact h.free j hj
end
theorem buf_tail (W : World) (g N j : Nat) (h : j < N) : (Instr.slice 22 (.slice (some ⟨g, 0, none⟩) N N) (some (.int .i64 (j : Int))) none none).run Try.prog W = .ok (.slice (some ⟨g, j, none⟩) (N - j) (N - j)) W := by
  rw [run_slice_l W 22 (some ⟨g, 0, none⟩) N N und22 .i64 j (by omega) (by omega), elem22, size5]
  simp only [Result.andThen_ok, sliced, Int.toNat_natCast]
  rw [if_neg (by omega)]
  have : (⟨g, 0, none⟩ : Addr).add j = ⟨g, j, none⟩ := by unfold Addr.add; split <;> simp_all
  simp [this]
theorem buf_head (W : World) (g N j : Nat) (x : Int) (hx : x = j) (h : j ≤ N) : (Instr.slice 22 (.slice (some ⟨g, 0, none⟩) N N) none (some (.int .i64 x)) none).run Try.prog W = .ok (.slice (some ⟨g, 0, none⟩) j N) W := by
  subst hx
  rw [run_slice_h W 22 (some ⟨g, 0, none⟩) N N und22 .i64 j (by omega) (by omega), elem22, size5]
  simp only [Result.andThen_ok, sliced, Int.toNat_natCast]
  simp [add_zero']

theorem repeat_zero (A : Option Addr) (k c : Nat) (w : World) :
    Calls Try.prog 71 #[.slice A k c, .int .i64 0] w fun e w' => e = .returned (.slice (some ⟨w.heap.size, 0, none⟩) 0 0) ∧ Below w.heap.size w w' := by
  go_enter Try.func71, Try.ntmps71
  go_wp2
  go_ret
  exact ⟨rfl, (Below.refl _ _).alloc (Nat.le_refl _) _⟩

/-- The new row that Repeat fills. -/
theorem made_row (w : World) (N : Nat) (hN : N ≤ 8388608) : ∃ W1 C, (callFunc 88 #[.int .i64 (N : Int)]).run Try.prog w = .ok (.value (.slice (some ⟨w.heap.size, 0, none⟩) N C)) W1 ∧ N ≤ C ∧ Fil W1 w.heap.size N [] ∧ Below w.heap.size w W1 ∧ w.heap.size < W1.heap.size := by
  obtain ⟨cs, hrun, hle, _⟩ := Lib.run_makeNoZero (P := Try.prog) w #[3] 22 5 Try.underlying22 N (by omega)
  refine ⟨_, _, ?_, hle, Fil.start w.drew.drew cs N hle, ((Below.refl w.heap.size w).drew.drew).alloc (Nat.le_refl _) _, by show w.heap.size < (World.alloc w.drew.drew _).heap.size; simp⟩
  rw [run_callFunc_extern Try.func88 (by kernel_rfl) (by kernel_rfl) (by kernel_rfl) (e := Extern.BytealgMakeNoZero.makeNoZero #[3] #[22]) (by kernel_rfl), hrun]
  rfl
theorem below_setCells {B : Nat} {a w : World} (h : Below B a w) {g : Nat} (hg : B ≤ g) : ∀ (vs : List Value) (o : Nat), Below B a (w.setCells g o vs) := by
  intro vs
  induction vs generalizing w with
  | nil => intro o; exact h
  | cons v r ih => intro o; exact ih (h.setCell (p := ⟨g, o, none⟩) hg v) (o + 1)
theorem size_setCells {w : World} (g : Nat) : ∀ (vs : List Value) (o : Nat), (w.setCells g o vs).heap.size = w.heap.size := by
  intro vs
  induction vs generalizing w with
  | nil => intro o; rfl
  | cons v r ih => intro o; exact (ih (w := w.setCell ⟨g, o, none⟩ v) (o + 1)).trans (by simp [World.setCell])
/-- A piece of what is repeated, copied. -/
theorem rep_piece {wr : World} {g N k t j c ch : Nat} {b : List UInt8} (hF : Fil wr g N ((M.rep b t).take j)) (hb : b.length = k) (hN : k * t = N) (hj : j < N) (hd : j % k = 0) (hch : ch ≤ j) (hc : c = min ch (N - j)) (h0 : 0 < c) :
    (∀ ty : TypeId, (Builtin.copy_ #[22, 22] ty #[.slice (some ⟨g, j, none⟩) (N - j) (N - j), .slice (some ⟨g, 0, none⟩) ch N]).run Try.prog wr = .ok (.int .i64 (c : Int)) (wr.setCells g j (u8s (((M.rep b t).take j).take c)))) ∧
      Fil (wr.setCells g j (u8s (((M.rep b t).take j).take c))) g N ((M.rep b t).take (j + c)) := by
  have hL : (M.rep b t).length = N := by rw [M.rep_length, hb, Nat.mul_comm]; exact hN
  have hjl : ((M.rep b t).take j).length = j := by simp [hL]; omega
  have hpl : (((M.rep b t).take j).take c).length = c := by rw [List.length_take, hjl]; omega
  have := hF.copy (some ⟨g, 0, none⟩) ch N j (N - j) (N - j) ((M.rep b t).take j) (((M.rep b t).take j).take c) hjl.symm (by rw [hjl]) (by rw [hpl]; omega) hF.own.lies (by rw [hpl]) (by rw [hpl]; exact h0)
  rw [hpl, M.rep_step b t j c (by rw [hb]; exact Nat.dvd_of_mod_eq_zero hd) (by rw [hb, Nat.mul_comm, hN]; omega) (by omega)] at this
  exact this

set_option maxHeartbeats 2000000 in
theorem repeat_yes (k : Nat) (hk : k = 1 ∨ k = 2 ∨ k = 4 ∨ k = 8) (A : Option Addr) (c t N g : Nat) (b : List UInt8) (hb : b.length = k) (h0 : 0 < t) (ht : t ≤ 1048576) (hN : k * t = N) (w : World) (hg : g = w.heap.size) (hl : Lies w A (u8s b)) :
    Calls Try.prog 71 #[.slice A k c, .int .i64 t] w fun e w' => e = .returned (.slice (some ⟨g, 0, none⟩) N N) ∧ Own w' g (M.rep b t) ∧ Below g w w' ∧ g < w'.heap.size := by
  have hN8 : N ≤ 8388608 := by rw [← hN]; exact Nat.mul_le_mul (show k ≤ 8 by omega) ht
  have hNk : k ≤ N := by rw [← hN]; exact Nat.le_mul_of_pos_right k h0
  have hNd : N % k = 0 := by rw [← hN]; exact Nat.mul_mod_right k t
  obtain ⟨W1, C, hcall, hNC, F1, B1, Z1⟩ := made_row w N hN8
  rw [← hg] at hcall F1 B1 Z1
  have hL : (M.rep b t).length = N := by rw [M.rep_length, hb, Nat.mul_comm]; exact hN
  have hb1 : (M.rep b t).take k = b := by
    obtain ⟨s, rfl⟩ : ∃ s, t = s + 1 := ⟨t - 1, by omega⟩
    rw [M.rep_succ, List.take_append_of_le_length (by omega), List.take_of_length_le (by omega)]
  have hco := F1.copy A k c 0 N N b b rfl rfl (by rw [hb]; omega) (hl.below (hg ▸ B1)) (by rw [List.take_length]) (by omega)
  rw [hb, List.nil_append] at hco
  obtain ⟨hco, F2⟩ := hco
  have B2 : Below g w (W1.setCells g 0 (u8s b)) := below_setCells B1 (Nat.le_refl _) _ _
  have Z2 : g < (W1.setCells g 0 (u8s b)).heap.size := by rw [size_setCells]; exact Z1
  generalize W1.setCells g 0 (u8s b) = W2 at *
  rw [← hb1] at F2
  have H2 := Lib.hid (show Fil W2 g N ((M.rep b t).take k) ∧ Below g w W2 ∧ g < W2.heap.size from ⟨F2, B2, Z2⟩)
  have HB := Lib.hid (show b.length = k ∧ k * t = N ∧ (M.rep b t).length = N ∧ N % k = 0 from ⟨hb, hN, hL, hNd⟩)
  have hcap : (N : Int) ≤ (C : Int) := by omega
  clear F1 B1 Z1 F2 B2 Z2 hb hN hL hNd hg hl hb1
  have HK := Lib.hid hk
  rcases hk with rfl | rfl | rfl | rfl
  · go_enter Try.func71, Try.ntmps71
    by_cases h8 : N ≤ 8192
    · have d8 : decide ((8192 : Int) < (N : Int)) = false := by simp; omega
      go_wp2_with (go_at_call 87; refine (mul_at 1 t N HB.out.2.1 (by omega) ht _).mono ?_; rintro e w' ⟨rfl, rfl⟩)
      go_loopw [10] (fun i wr => ∃ j : Nat, 1 ≤ j ∧ j ≤ N ∧ j % 1 = 0 ∧ i = .int .i64 j ∧ Fil wr g N ((M.rep b t).take j) ∧ Below g w wr ∧ g < wr.heap.size) (fun i _ => N - (intOf i).toNat)
      case atStart => exact ⟨1, by omega, by omega, by omega, rfl, H2.out⟩
      case round =>
        obtain ⟨j, hjk, hjN, hjd, rfl, hR⟩ := hrel
        have HR := Lib.hid hR
        clear hR hco
        by_cases hlt : j < N
        · obtain ⟨c1, hc1⟩ : ∃ c1, c1 = min j (N - j) := ⟨_, rfl⟩
          have hs1 := fun W => buf_tail W g N j hlt
          have hs2 := fun W => buf_head W g N j j (by omega) (by omega)
          go_wp2_with fail
          have F3 : Fil wr.drew g N ((M.rep b t).take j) := ⟨HR.out.1.le, HR.out.1.has, HR.out.1.there, HR.out.1.free⟩
          have B3 : Below g w wr.drew ∧ g < wr.drew.heap.size := ⟨HR.out.2.1.drew, HR.out.2.2⟩
          obtain ⟨hco, F4⟩ := rep_piece (ch := j) F3 HB.out.1 HB.out.2.1 hlt hjd (by omega) hc1 (by omega)
          have B4 := below_setCells B3.1 (Nat.le_refl g) (u8s (((M.rep b t).take j).take c1)) j
          have Z4 : g < (wr.drew.setCells g j (u8s (((M.rep b t).take j).take c1))).heap.size := by rw [size_setCells]; exact B3.2
          have H4 := Lib.hid (And.intro F4 (And.intro B4 Z4))
          have hc1N : c1 ≤ N := by omega
          have HC1 := Lib.hid hc1
          clear F3 B3 F4 hc1 B4 Z4
          generalize wr.drew.setCells g j (u8s (((M.rep b t).take j).take c1)) = w4 at *
          have hwr : IntKind.i64.wrap ((j : Int) + (c1 : Int)) = (j : Int) + (c1 : Int) := IntWalk.i64_in _ (by have := HC1.out; omega)
          go_region_held3 (fun _ => True) (trivial) (fail)
          go_wp2_with fail
          clear hwr
          go_roundw
          case rel => exact ⟨j + c1, by have := HC1.out; omega, by have := HC1.out; omega, by have := HC1.out; have := HB.out.2.2.2; omega, by go_num, H4.out⟩
          case measure => have := HC1.out; simp [intOf]; omega
        · go_wp2_with fail
          go_ret
          obtain rfl : j = N := by omega
          exact ⟨rfl, by have := HR.out.1.own; rwa [List.take_of_length_le (by have := HB.out.2.2.1; omega)] at this, HR.out.2⟩
    · have d8 : decide ((8192 : Int) < (N : Int)) = true := by simp; omega
      go_wp2_with (go_at_call 87; refine (mul_at 1 t N HB.out.2.1 (by omega) ht _).mono ?_; rintro e w' ⟨rfl, rfl⟩)
      go_loopw [10] (fun i wr => ∃ j : Nat, 1 ≤ j ∧ j ≤ N ∧ j % 1 = 0 ∧ i = .int .i64 j ∧ Fil wr g N ((M.rep b t).take j) ∧ Below g w wr ∧ g < wr.heap.size) (fun i _ => N - (intOf i).toNat)
      case atStart => exact ⟨1, by omega, by omega, by omega, rfl, H2.out⟩
      case round =>
        obtain ⟨j, hjk, hjN, hjd, rfl, hR⟩ := hrel
        have HR := Lib.hid hR
        clear hR hco
        by_cases hlt : j < N
        · by_cases hj8 : j ≤ 8192
          · obtain ⟨c1, hc1⟩ : ∃ c1, c1 = min j (N - j) := ⟨_, rfl⟩
            have hs1 := fun W => buf_tail W g N j hlt
            have hs2 := fun W => buf_head W g N j j (by omega) (by omega)
            go_wp2_with fail
            have F3 : Fil wr.drew g N ((M.rep b t).take j) := ⟨HR.out.1.le, HR.out.1.has, HR.out.1.there, HR.out.1.free⟩
            have B3 : Below g w wr.drew ∧ g < wr.drew.heap.size := ⟨HR.out.2.1.drew, HR.out.2.2⟩
            obtain ⟨hco, F4⟩ := rep_piece (ch := j) F3 HB.out.1 HB.out.2.1 hlt hjd (by omega) hc1 (by omega)
            have B4 := below_setCells B3.1 (Nat.le_refl g) (u8s (((M.rep b t).take j).take c1)) j
            have Z4 : g < (wr.drew.setCells g j (u8s (((M.rep b t).take j).take c1))).heap.size := by rw [size_setCells]; exact B3.2
            have H4 := Lib.hid (And.intro F4 (And.intro B4 Z4))
            have hc1N : c1 ≤ N := by omega
            have HC1 := Lib.hid hc1
            clear F3 B3 F4 hc1 B4 Z4
            generalize wr.drew.setCells g j (u8s (((M.rep b t).take j).take c1)) = w4 at *
            have hwr : IntKind.i64.wrap ((j : Int) + (c1 : Int)) = (j : Int) + (c1 : Int) := IntWalk.i64_in _ (by have := HC1.out; omega)
            go_region_held3 (fun _ => True) (trivial) (fail)
            go_wp2_with fail
            clear hwr
            go_roundw
            case rel => exact ⟨j + c1, by have := HC1.out; omega, by have := HC1.out; omega, by have := HC1.out; have := HB.out.2.2.2; omega, by go_num, H4.out⟩
            case measure => have := HC1.out; simp [intOf]; omega
          · obtain ⟨c1, hc1⟩ : ∃ c1, c1 = min 8192 (N - j) := ⟨_, rfl⟩
            have hs1 := fun W => buf_tail W g N j hlt
            have hs2 := fun W => buf_head W g N 8192 8192 (by omega) (by omega)
            go_wp2_with fail
            have F3 : Fil wr.drew g N ((M.rep b t).take j) := ⟨HR.out.1.le, HR.out.1.has, HR.out.1.there, HR.out.1.free⟩
            have B3 : Below g w wr.drew ∧ g < wr.drew.heap.size := ⟨HR.out.2.1.drew, HR.out.2.2⟩
            obtain ⟨hco, F4⟩ := rep_piece (ch := 8192) F3 HB.out.1 HB.out.2.1 hlt hjd (by omega) hc1 (by omega)
            have B4 := below_setCells B3.1 (Nat.le_refl g) (u8s (((M.rep b t).take j).take c1)) j
            have Z4 : g < (wr.drew.setCells g j (u8s (((M.rep b t).take j).take c1))).heap.size := by rw [size_setCells]; exact B3.2
            have H4 := Lib.hid (And.intro F4 (And.intro B4 Z4))
            have hc1N : c1 ≤ N := by omega
            have HC1 := Lib.hid hc1
            clear F3 B3 F4 hc1 B4 Z4
            generalize wr.drew.setCells g j (u8s (((M.rep b t).take j).take c1)) = w4 at *
            have hwr : IntKind.i64.wrap ((j : Int) + (c1 : Int)) = (j : Int) + (c1 : Int) := IntWalk.i64_in _ (by have := HC1.out; omega)
            go_region_held3 (fun _ => True) (trivial) (fail)
            go_wp2_with fail
            clear hwr
            go_roundw
            case rel => exact ⟨j + c1, by have := HC1.out; omega, by have := HC1.out; omega, by have := HC1.out; have := HB.out.2.2.2; omega, by go_num, H4.out⟩
            case measure => have := HC1.out; simp [intOf]; omega
        · go_wp2_with fail
          go_ret
          obtain rfl : j = N := by omega
          exact ⟨rfl, by have := HR.out.1.own; rwa [List.take_of_length_le (by have := HB.out.2.2.1; omega)] at this, HR.out.2⟩
  · go_enter Try.func71, Try.ntmps71
    by_cases h8 : N ≤ 8192
    · have d8 : decide ((8192 : Int) < (N : Int)) = false := by simp; omega
      go_wp2_with (go_at_call 87; refine (mul_at 2 t N HB.out.2.1 (by omega) ht _).mono ?_; rintro e w' ⟨rfl, rfl⟩)
      go_loopw [10] (fun i wr => ∃ j : Nat, 2 ≤ j ∧ j ≤ N ∧ j % 2 = 0 ∧ i = .int .i64 j ∧ Fil wr g N ((M.rep b t).take j) ∧ Below g w wr ∧ g < wr.heap.size) (fun i _ => N - (intOf i).toNat)
      case atStart => exact ⟨2, by omega, by omega, by omega, rfl, H2.out⟩
      case round =>
        obtain ⟨j, hjk, hjN, hjd, rfl, hR⟩ := hrel
        have HR := Lib.hid hR
        clear hR hco
        by_cases hlt : j < N
        · obtain ⟨c1, hc1⟩ : ∃ c1, c1 = min j (N - j) := ⟨_, rfl⟩
          have hs1 := fun W => buf_tail W g N j hlt
          have hs2 := fun W => buf_head W g N j j (by omega) (by omega)
          go_wp2_with fail
          have F3 : Fil wr.drew g N ((M.rep b t).take j) := ⟨HR.out.1.le, HR.out.1.has, HR.out.1.there, HR.out.1.free⟩
          have B3 : Below g w wr.drew ∧ g < wr.drew.heap.size := ⟨HR.out.2.1.drew, HR.out.2.2⟩
          obtain ⟨hco, F4⟩ := rep_piece (ch := j) F3 HB.out.1 HB.out.2.1 hlt hjd (by omega) hc1 (by omega)
          have B4 := below_setCells B3.1 (Nat.le_refl g) (u8s (((M.rep b t).take j).take c1)) j
          have Z4 : g < (wr.drew.setCells g j (u8s (((M.rep b t).take j).take c1))).heap.size := by rw [size_setCells]; exact B3.2
          have H4 := Lib.hid (And.intro F4 (And.intro B4 Z4))
          have hc1N : c1 ≤ N := by omega
          have HC1 := Lib.hid hc1
          clear F3 B3 F4 hc1 B4 Z4
          generalize wr.drew.setCells g j (u8s (((M.rep b t).take j).take c1)) = w4 at *
          have hwr : IntKind.i64.wrap ((j : Int) + (c1 : Int)) = (j : Int) + (c1 : Int) := IntWalk.i64_in _ (by have := HC1.out; omega)
          go_region_held3 (fun _ => True) (trivial) (fail)
          go_wp2_with fail
          clear hwr
          go_roundw
          case rel => exact ⟨j + c1, by have := HC1.out; omega, by have := HC1.out; omega, by have := HC1.out; have := HB.out.2.2.2; omega, by go_num, H4.out⟩
          case measure => have := HC1.out; simp [intOf]; omega
        · go_wp2_with fail
          go_ret
          obtain rfl : j = N := by omega
          exact ⟨rfl, by have := HR.out.1.own; rwa [List.take_of_length_le (by have := HB.out.2.2.1; omega)] at this, HR.out.2⟩
    · have d8 : decide ((8192 : Int) < (N : Int)) = true := by simp; omega
      go_wp2_with (go_at_call 87; refine (mul_at 2 t N HB.out.2.1 (by omega) ht _).mono ?_; rintro e w' ⟨rfl, rfl⟩)
      go_loopw [10] (fun i wr => ∃ j : Nat, 2 ≤ j ∧ j ≤ N ∧ j % 2 = 0 ∧ i = .int .i64 j ∧ Fil wr g N ((M.rep b t).take j) ∧ Below g w wr ∧ g < wr.heap.size) (fun i _ => N - (intOf i).toNat)
      case atStart => exact ⟨2, by omega, by omega, by omega, rfl, H2.out⟩
      case round =>
        obtain ⟨j, hjk, hjN, hjd, rfl, hR⟩ := hrel
        have HR := Lib.hid hR
        clear hR hco
        by_cases hlt : j < N
        · by_cases hj8 : j ≤ 8192
          · obtain ⟨c1, hc1⟩ : ∃ c1, c1 = min j (N - j) := ⟨_, rfl⟩
            have hs1 := fun W => buf_tail W g N j hlt
            have hs2 := fun W => buf_head W g N j j (by omega) (by omega)
            go_wp2_with fail
            have F3 : Fil wr.drew g N ((M.rep b t).take j) := ⟨HR.out.1.le, HR.out.1.has, HR.out.1.there, HR.out.1.free⟩
            have B3 : Below g w wr.drew ∧ g < wr.drew.heap.size := ⟨HR.out.2.1.drew, HR.out.2.2⟩
            obtain ⟨hco, F4⟩ := rep_piece (ch := j) F3 HB.out.1 HB.out.2.1 hlt hjd (by omega) hc1 (by omega)
            have B4 := below_setCells B3.1 (Nat.le_refl g) (u8s (((M.rep b t).take j).take c1)) j
            have Z4 : g < (wr.drew.setCells g j (u8s (((M.rep b t).take j).take c1))).heap.size := by rw [size_setCells]; exact B3.2
            have H4 := Lib.hid (And.intro F4 (And.intro B4 Z4))
            have hc1N : c1 ≤ N := by omega
            have HC1 := Lib.hid hc1
            clear F3 B3 F4 hc1 B4 Z4
            generalize wr.drew.setCells g j (u8s (((M.rep b t).take j).take c1)) = w4 at *
            have hwr : IntKind.i64.wrap ((j : Int) + (c1 : Int)) = (j : Int) + (c1 : Int) := IntWalk.i64_in _ (by have := HC1.out; omega)
            go_region_held3 (fun _ => True) (trivial) (fail)
            go_wp2_with fail
            clear hwr
            go_roundw
            case rel => exact ⟨j + c1, by have := HC1.out; omega, by have := HC1.out; omega, by have := HC1.out; have := HB.out.2.2.2; omega, by go_num, H4.out⟩
            case measure => have := HC1.out; simp [intOf]; omega
          · obtain ⟨c1, hc1⟩ : ∃ c1, c1 = min 8192 (N - j) := ⟨_, rfl⟩
            have hs1 := fun W => buf_tail W g N j hlt
            have hs2 := fun W => buf_head W g N 8192 8192 (by omega) (by omega)
            go_wp2_with fail
            have F3 : Fil wr.drew g N ((M.rep b t).take j) := ⟨HR.out.1.le, HR.out.1.has, HR.out.1.there, HR.out.1.free⟩
            have B3 : Below g w wr.drew ∧ g < wr.drew.heap.size := ⟨HR.out.2.1.drew, HR.out.2.2⟩
            obtain ⟨hco, F4⟩ := rep_piece (ch := 8192) F3 HB.out.1 HB.out.2.1 hlt hjd (by omega) hc1 (by omega)
            have B4 := below_setCells B3.1 (Nat.le_refl g) (u8s (((M.rep b t).take j).take c1)) j
            have Z4 : g < (wr.drew.setCells g j (u8s (((M.rep b t).take j).take c1))).heap.size := by rw [size_setCells]; exact B3.2
            have H4 := Lib.hid (And.intro F4 (And.intro B4 Z4))
            have hc1N : c1 ≤ N := by omega
            have HC1 := Lib.hid hc1
            clear F3 B3 F4 hc1 B4 Z4
            generalize wr.drew.setCells g j (u8s (((M.rep b t).take j).take c1)) = w4 at *
            have hwr : IntKind.i64.wrap ((j : Int) + (c1 : Int)) = (j : Int) + (c1 : Int) := IntWalk.i64_in _ (by have := HC1.out; omega)
            go_region_held3 (fun _ => True) (trivial) (fail)
            go_wp2_with fail
            clear hwr
            go_roundw
            case rel => exact ⟨j + c1, by have := HC1.out; omega, by have := HC1.out; omega, by have := HC1.out; have := HB.out.2.2.2; omega, by go_num, H4.out⟩
            case measure => have := HC1.out; simp [intOf]; omega
        · go_wp2_with fail
          go_ret
          obtain rfl : j = N := by omega
          exact ⟨rfl, by have := HR.out.1.own; rwa [List.take_of_length_le (by have := HB.out.2.2.1; omega)] at this, HR.out.2⟩
  · go_enter Try.func71, Try.ntmps71
    by_cases h8 : N ≤ 8192
    · have d8 : decide ((8192 : Int) < (N : Int)) = false := by simp; omega
      go_wp2_with (go_at_call 87; refine (mul_at 4 t N HB.out.2.1 (by omega) ht _).mono ?_; rintro e w' ⟨rfl, rfl⟩)
      go_loopw [10] (fun i wr => ∃ j : Nat, 4 ≤ j ∧ j ≤ N ∧ j % 4 = 0 ∧ i = .int .i64 j ∧ Fil wr g N ((M.rep b t).take j) ∧ Below g w wr ∧ g < wr.heap.size) (fun i _ => N - (intOf i).toNat)
      case atStart => exact ⟨4, by omega, by omega, by omega, rfl, H2.out⟩
      case round =>
        obtain ⟨j, hjk, hjN, hjd, rfl, hR⟩ := hrel
        have HR := Lib.hid hR
        clear hR hco
        by_cases hlt : j < N
        · obtain ⟨c1, hc1⟩ : ∃ c1, c1 = min j (N - j) := ⟨_, rfl⟩
          have hs1 := fun W => buf_tail W g N j hlt
          have hs2 := fun W => buf_head W g N j j (by omega) (by omega)
          go_wp2_with fail
          have F3 : Fil wr.drew g N ((M.rep b t).take j) := ⟨HR.out.1.le, HR.out.1.has, HR.out.1.there, HR.out.1.free⟩
          have B3 : Below g w wr.drew ∧ g < wr.drew.heap.size := ⟨HR.out.2.1.drew, HR.out.2.2⟩
          obtain ⟨hco, F4⟩ := rep_piece (ch := j) F3 HB.out.1 HB.out.2.1 hlt hjd (by omega) hc1 (by omega)
          have B4 := below_setCells B3.1 (Nat.le_refl g) (u8s (((M.rep b t).take j).take c1)) j
          have Z4 : g < (wr.drew.setCells g j (u8s (((M.rep b t).take j).take c1))).heap.size := by rw [size_setCells]; exact B3.2
          have H4 := Lib.hid (And.intro F4 (And.intro B4 Z4))
          have hc1N : c1 ≤ N := by omega
          have HC1 := Lib.hid hc1
          clear F3 B3 F4 hc1 B4 Z4
          generalize wr.drew.setCells g j (u8s (((M.rep b t).take j).take c1)) = w4 at *
          have hwr : IntKind.i64.wrap ((j : Int) + (c1 : Int)) = (j : Int) + (c1 : Int) := IntWalk.i64_in _ (by have := HC1.out; omega)
          go_region_held3 (fun _ => True) (trivial) (fail)
          go_wp2_with fail
          clear hwr
          go_roundw
          case rel => exact ⟨j + c1, by have := HC1.out; omega, by have := HC1.out; omega, by have := HC1.out; have := HB.out.2.2.2; omega, by go_num, H4.out⟩
          case measure => have := HC1.out; simp [intOf]; omega
        · go_wp2_with fail
          go_ret
          obtain rfl : j = N := by omega
          exact ⟨rfl, by have := HR.out.1.own; rwa [List.take_of_length_le (by have := HB.out.2.2.1; omega)] at this, HR.out.2⟩
    · have d8 : decide ((8192 : Int) < (N : Int)) = true := by simp; omega
      go_wp2_with (go_at_call 87; refine (mul_at 4 t N HB.out.2.1 (by omega) ht _).mono ?_; rintro e w' ⟨rfl, rfl⟩)
      go_loopw [10] (fun i wr => ∃ j : Nat, 4 ≤ j ∧ j ≤ N ∧ j % 4 = 0 ∧ i = .int .i64 j ∧ Fil wr g N ((M.rep b t).take j) ∧ Below g w wr ∧ g < wr.heap.size) (fun i _ => N - (intOf i).toNat)
      case atStart => exact ⟨4, by omega, by omega, by omega, rfl, H2.out⟩
      case round =>
        obtain ⟨j, hjk, hjN, hjd, rfl, hR⟩ := hrel
        have HR := Lib.hid hR
        clear hR hco
        by_cases hlt : j < N
        · by_cases hj8 : j ≤ 8192
          · obtain ⟨c1, hc1⟩ : ∃ c1, c1 = min j (N - j) := ⟨_, rfl⟩
            have hs1 := fun W => buf_tail W g N j hlt
            have hs2 := fun W => buf_head W g N j j (by omega) (by omega)
            go_wp2_with fail
            have F3 : Fil wr.drew g N ((M.rep b t).take j) := ⟨HR.out.1.le, HR.out.1.has, HR.out.1.there, HR.out.1.free⟩
            have B3 : Below g w wr.drew ∧ g < wr.drew.heap.size := ⟨HR.out.2.1.drew, HR.out.2.2⟩
            obtain ⟨hco, F4⟩ := rep_piece (ch := j) F3 HB.out.1 HB.out.2.1 hlt hjd (by omega) hc1 (by omega)
            have B4 := below_setCells B3.1 (Nat.le_refl g) (u8s (((M.rep b t).take j).take c1)) j
            have Z4 : g < (wr.drew.setCells g j (u8s (((M.rep b t).take j).take c1))).heap.size := by rw [size_setCells]; exact B3.2
            have H4 := Lib.hid (And.intro F4 (And.intro B4 Z4))
            have hc1N : c1 ≤ N := by omega
            have HC1 := Lib.hid hc1
            clear F3 B3 F4 hc1 B4 Z4
            generalize wr.drew.setCells g j (u8s (((M.rep b t).take j).take c1)) = w4 at *
            have hwr : IntKind.i64.wrap ((j : Int) + (c1 : Int)) = (j : Int) + (c1 : Int) := IntWalk.i64_in _ (by have := HC1.out; omega)
            go_region_held3 (fun _ => True) (trivial) (fail)
            go_wp2_with fail
            clear hwr
            go_roundw
            case rel => exact ⟨j + c1, by have := HC1.out; omega, by have := HC1.out; omega, by have := HC1.out; have := HB.out.2.2.2; omega, by go_num, H4.out⟩
            case measure => have := HC1.out; simp [intOf]; omega
          · obtain ⟨c1, hc1⟩ : ∃ c1, c1 = min 8192 (N - j) := ⟨_, rfl⟩
            have hs1 := fun W => buf_tail W g N j hlt
            have hs2 := fun W => buf_head W g N 8192 8192 (by omega) (by omega)
            go_wp2_with fail
            have F3 : Fil wr.drew g N ((M.rep b t).take j) := ⟨HR.out.1.le, HR.out.1.has, HR.out.1.there, HR.out.1.free⟩
            have B3 : Below g w wr.drew ∧ g < wr.drew.heap.size := ⟨HR.out.2.1.drew, HR.out.2.2⟩
            obtain ⟨hco, F4⟩ := rep_piece (ch := 8192) F3 HB.out.1 HB.out.2.1 hlt hjd (by omega) hc1 (by omega)
            have B4 := below_setCells B3.1 (Nat.le_refl g) (u8s (((M.rep b t).take j).take c1)) j
            have Z4 : g < (wr.drew.setCells g j (u8s (((M.rep b t).take j).take c1))).heap.size := by rw [size_setCells]; exact B3.2
            have H4 := Lib.hid (And.intro F4 (And.intro B4 Z4))
            have hc1N : c1 ≤ N := by omega
            have HC1 := Lib.hid hc1
            clear F3 B3 F4 hc1 B4 Z4
            generalize wr.drew.setCells g j (u8s (((M.rep b t).take j).take c1)) = w4 at *
            have hwr : IntKind.i64.wrap ((j : Int) + (c1 : Int)) = (j : Int) + (c1 : Int) := IntWalk.i64_in _ (by have := HC1.out; omega)
            go_region_held3 (fun _ => True) (trivial) (fail)
            go_wp2_with fail
            clear hwr
            go_roundw
            case rel => exact ⟨j + c1, by have := HC1.out; omega, by have := HC1.out; omega, by have := HC1.out; have := HB.out.2.2.2; omega, by go_num, H4.out⟩
            case measure => have := HC1.out; simp [intOf]; omega
        · go_wp2_with fail
          go_ret
          obtain rfl : j = N := by omega
          exact ⟨rfl, by have := HR.out.1.own; rwa [List.take_of_length_le (by have := HB.out.2.2.1; omega)] at this, HR.out.2⟩
  · go_enter Try.func71, Try.ntmps71
    by_cases h8 : N ≤ 8192
    · have d8 : decide ((8192 : Int) < (N : Int)) = false := by simp; omega
      go_wp2_with (go_at_call 87; refine (mul_at 8 t N HB.out.2.1 (by omega) ht _).mono ?_; rintro e w' ⟨rfl, rfl⟩)
      go_loopw [10] (fun i wr => ∃ j : Nat, 8 ≤ j ∧ j ≤ N ∧ j % 8 = 0 ∧ i = .int .i64 j ∧ Fil wr g N ((M.rep b t).take j) ∧ Below g w wr ∧ g < wr.heap.size) (fun i _ => N - (intOf i).toNat)
      case atStart => exact ⟨8, by omega, by omega, by omega, rfl, H2.out⟩
      case round =>
        obtain ⟨j, hjk, hjN, hjd, rfl, hR⟩ := hrel
        have HR := Lib.hid hR
        clear hR hco
        by_cases hlt : j < N
        · obtain ⟨c1, hc1⟩ : ∃ c1, c1 = min j (N - j) := ⟨_, rfl⟩
          have hs1 := fun W => buf_tail W g N j hlt
          have hs2 := fun W => buf_head W g N j j (by omega) (by omega)
          go_wp2_with fail
          have F3 : Fil wr.drew g N ((M.rep b t).take j) := ⟨HR.out.1.le, HR.out.1.has, HR.out.1.there, HR.out.1.free⟩
          have B3 : Below g w wr.drew ∧ g < wr.drew.heap.size := ⟨HR.out.2.1.drew, HR.out.2.2⟩
          obtain ⟨hco, F4⟩ := rep_piece (ch := j) F3 HB.out.1 HB.out.2.1 hlt hjd (by omega) hc1 (by omega)
          have B4 := below_setCells B3.1 (Nat.le_refl g) (u8s (((M.rep b t).take j).take c1)) j
          have Z4 : g < (wr.drew.setCells g j (u8s (((M.rep b t).take j).take c1))).heap.size := by rw [size_setCells]; exact B3.2
          have H4 := Lib.hid (And.intro F4 (And.intro B4 Z4))
          have hc1N : c1 ≤ N := by omega
          have HC1 := Lib.hid hc1
          clear F3 B3 F4 hc1 B4 Z4
          generalize wr.drew.setCells g j (u8s (((M.rep b t).take j).take c1)) = w4 at *
          have hwr : IntKind.i64.wrap ((j : Int) + (c1 : Int)) = (j : Int) + (c1 : Int) := IntWalk.i64_in _ (by have := HC1.out; omega)
          go_region_held3 (fun _ => True) (trivial) (fail)
          go_wp2_with fail
          clear hwr
          go_roundw
          case rel => exact ⟨j + c1, by have := HC1.out; omega, by have := HC1.out; omega, by have := HC1.out; have := HB.out.2.2.2; omega, by go_num, H4.out⟩
          case measure => have := HC1.out; simp [intOf]; omega
        · go_wp2_with fail
          go_ret
          obtain rfl : j = N := by omega
          exact ⟨rfl, by have := HR.out.1.own; rwa [List.take_of_length_le (by have := HB.out.2.2.1; omega)] at this, HR.out.2⟩
    · have d8 : decide ((8192 : Int) < (N : Int)) = true := by simp; omega
      go_wp2_with (go_at_call 87; refine (mul_at 8 t N HB.out.2.1 (by omega) ht _).mono ?_; rintro e w' ⟨rfl, rfl⟩)
      go_loopw [10] (fun i wr => ∃ j : Nat, 8 ≤ j ∧ j ≤ N ∧ j % 8 = 0 ∧ i = .int .i64 j ∧ Fil wr g N ((M.rep b t).take j) ∧ Below g w wr ∧ g < wr.heap.size) (fun i _ => N - (intOf i).toNat)
      case atStart => exact ⟨8, by omega, by omega, by omega, rfl, H2.out⟩
      case round =>
        obtain ⟨j, hjk, hjN, hjd, rfl, hR⟩ := hrel
        have HR := Lib.hid hR
        clear hR hco
        by_cases hlt : j < N
        · by_cases hj8 : j ≤ 8192
          · obtain ⟨c1, hc1⟩ : ∃ c1, c1 = min j (N - j) := ⟨_, rfl⟩
            have hs1 := fun W => buf_tail W g N j hlt
            have hs2 := fun W => buf_head W g N j j (by omega) (by omega)
            go_wp2_with fail
            have F3 : Fil wr.drew g N ((M.rep b t).take j) := ⟨HR.out.1.le, HR.out.1.has, HR.out.1.there, HR.out.1.free⟩
            have B3 : Below g w wr.drew ∧ g < wr.drew.heap.size := ⟨HR.out.2.1.drew, HR.out.2.2⟩
            obtain ⟨hco, F4⟩ := rep_piece (ch := j) F3 HB.out.1 HB.out.2.1 hlt hjd (by omega) hc1 (by omega)
            have B4 := below_setCells B3.1 (Nat.le_refl g) (u8s (((M.rep b t).take j).take c1)) j
            have Z4 : g < (wr.drew.setCells g j (u8s (((M.rep b t).take j).take c1))).heap.size := by rw [size_setCells]; exact B3.2
            have H4 := Lib.hid (And.intro F4 (And.intro B4 Z4))
            have hc1N : c1 ≤ N := by omega
            have HC1 := Lib.hid hc1
            clear F3 B3 F4 hc1 B4 Z4
            generalize wr.drew.setCells g j (u8s (((M.rep b t).take j).take c1)) = w4 at *
            have hwr : IntKind.i64.wrap ((j : Int) + (c1 : Int)) = (j : Int) + (c1 : Int) := IntWalk.i64_in _ (by have := HC1.out; omega)
            go_region_held3 (fun _ => True) (trivial) (fail)
            go_wp2_with fail
            clear hwr
            go_roundw
            case rel => exact ⟨j + c1, by have := HC1.out; omega, by have := HC1.out; omega, by have := HC1.out; have := HB.out.2.2.2; omega, by go_num, H4.out⟩
            case measure => have := HC1.out; simp [intOf]; omega
          · obtain ⟨c1, hc1⟩ : ∃ c1, c1 = min 8192 (N - j) := ⟨_, rfl⟩
            have hs1 := fun W => buf_tail W g N j hlt
            have hs2 := fun W => buf_head W g N 8192 8192 (by omega) (by omega)
            go_wp2_with fail
            have F3 : Fil wr.drew g N ((M.rep b t).take j) := ⟨HR.out.1.le, HR.out.1.has, HR.out.1.there, HR.out.1.free⟩
            have B3 : Below g w wr.drew ∧ g < wr.drew.heap.size := ⟨HR.out.2.1.drew, HR.out.2.2⟩
            obtain ⟨hco, F4⟩ := rep_piece (ch := 8192) F3 HB.out.1 HB.out.2.1 hlt hjd (by omega) hc1 (by omega)
            have B4 := below_setCells B3.1 (Nat.le_refl g) (u8s (((M.rep b t).take j).take c1)) j
            have Z4 : g < (wr.drew.setCells g j (u8s (((M.rep b t).take j).take c1))).heap.size := by rw [size_setCells]; exact B3.2
            have H4 := Lib.hid (And.intro F4 (And.intro B4 Z4))
            have hc1N : c1 ≤ N := by omega
            have HC1 := Lib.hid hc1
            clear F3 B3 F4 hc1 B4 Z4
            generalize wr.drew.setCells g j (u8s (((M.rep b t).take j).take c1)) = w4 at *
            have hwr : IntKind.i64.wrap ((j : Int) + (c1 : Int)) = (j : Int) + (c1 : Int) := IntWalk.i64_in _ (by have := HC1.out; omega)
            go_region_held3 (fun _ => True) (trivial) (fail)
            go_wp2_with fail
            clear hwr
            go_roundw
            case rel => exact ⟨j + c1, by have := HC1.out; omega, by have := HC1.out; omega, by have := HC1.out; have := HB.out.2.2.2; omega, by go_num, H4.out⟩
            case measure => have := HC1.out; simp [intOf]; omega
        · go_wp2_with fail
          go_ret
          obtain rfl : j = N := by omega
          exact ⟨rfl, by have := HR.out.1.own; rwa [List.take_of_length_le (by have := HB.out.2.2.1; omega)] at this, HR.out.2⟩
end Go.Proofs.Ytmagdhcpbofkbaa
/-
  What Zero's closure does to one page's bytes.
-/
namespace Go.Proofs.Ytmagdhcpbofkbaa
open Go.ChangeShapes Go.WideShapes Go.ChangeAt Go.RowKit
set_option linter.unusedVariables false
set_option maxRecDepth 20000

theorem zero5 (w : World) : (zeroValue 5).run Try.prog w = .ok (.int .u8 0) w := by kernel_rfl
theorem clear_own (W : World) (g o n c : Nat) (L : List UInt8) (ho : Own W g L) (h : o + n ≤ L.length) (h0 : 0 < n) (ty : TypeId) :
    (Builtin.clear_ #[22] ty #[.slice (some ⟨g, o, none⟩) n c]).run Try.prog W = .ok (.tuple #[]) (W.setCells g o (u8s (List.replicate n 0))) := by
  have := Lib.run_clear_slice (P := Try.prog) W 22 5 ty (.int .u8 0) Try.underlying22 zero5 rfl rfl g o n c h0 (fun j hj => by rw [ho.1 (o + j) (by omega)]; rfl) (fun j hj => ho.2 (o + j) (by omega))
  rw [this]
  simp [u8s]

theorem Mine.setG_same {s m : Nat} {G : Pgs} {k g : Nat} {l l' : List UInt8} (h : G k = some (g, l)) (b : Nat) : Mine s m (setG G k (g, l')) b ↔ Mine s m G b := by
  constructor
  · intro hb
    rcases hb.of_setG with hb | rfl
    · exact hb
    · exact Or.inr (Or.inr ⟨k, l, h⟩)
  · rintro (hb | hb | ⟨j, lj, e⟩)
    · exact Or.inl hb
    · exact Or.inr (Or.inl hb)
    · by_cases ej : j = k
      · subst ej
        rw [h] at e
        injection e with e
        injection e with e _
        subst e
        exact Or.inr (Or.inr ⟨j, l', Go.Proofs.Ytmagdhcpbofkbaa.setG_same G j _⟩)
      · exact Or.inr (Or.inr ⟨j, lj, by rw [setG_other G _ ej]; exact e⟩)

theorem zero1_any {w : World} {s m P T : Nat} {G : Pgs} (h : IsSp w s m P T G) (bs : Nat) (hbs : w.cell? ⟨bs, 0, none⟩ = some (.pointer (some ⟨s, 0, none⟩)))
    (k f c : Nat) (hk : k < P) (hc : 0 < c) (hf : f + c ≤ 4096) :
    Calls Try.prog 72 #[keyV k, .int .u64 (f : Int), .int .u64 ((f + c : Nat) : Int), .pointer (some ⟨bs, 0, none⟩)] w
      fun e w' => e = .returned (.tuple #[]) ∧ ∃ G', IsSp w' s m P T G' ∧ bytesOf G' = M.zr (bytesOf G) (k * 4096 + f) c ∧ (∀ b, Mine s m G' b ↔ Mine s m G b) ∧ Kept w w' (Mine s m G) := by
  have hkey : ∃ ka kb : Int, keyV k = .agg #[.int .i64 ka, .int .i64 kb] := ⟨_, _, rfl⟩
  obtain ⟨ka, kb, hkv⟩ := hkey
  rw [hkv]
  obtain ⟨t, ht⟩ : ∃ t, t = f + c := ⟨_, rfl⟩
  rw [← ht]
  have HT := Lib.hid ht; clear ht
  have hslt := h.slt
  have hbsl := lt_of_cell hbs
  go_enter Try.func72, Try.ntmps72
  go_wp2_with fail
  have hk0 := (World.cell?_alloc_mark w #[.int .i64 ka, .int .i64 kb] 112 (0, 0) 0)
  have hk1 := (World.cell?_alloc_mark w #[.int .i64 ka, .int .i64 kb] 112 (0, 0) 1)
  have K1 := Lib.hid ((Kept.refl w (Mine s m G)).alloc (.cells #[.int .i64 ka, .int .i64 kb] 112))
  have h1 := h.alloc (.cells #[.int .i64 ka, .int .i64 kb] 112)
  have b1 := (World.cell?_alloc_lt w (.cells #[.int .i64 ka, .int .i64 kb] 112) ⟨bs, 0, none⟩ hbsl).trans hbs
  generalize hw1 : w.alloc (.cells #[.int .i64 ka, .int .i64 kb] 112) = w1 at hk0 hk1 K1 h1 b1 ⊢
  clear hw1
  have c1 := h1.c1
  have H1 := Lib.hid h1
  clear h hbs h1
  rcases hG : G k with _ | ⟨g, l⟩
  · have hl := fun q => (H1.out.drewN q).look_no k hk hG
    rw [hkv] at hl
    have HG := Lib.hid hG
    clear hG hkv
    go_quiet (fail)
    go_wp2_with fail
    go_end0
    exact ⟨rfl, G, H1.out.drewN nq, (M.flat_zr_none _ k f c hf (by rw [HG.out]; rfl)).symm, fun _ => Iff.rfl, K1.out.drewN nq⟩
  · obtain ⟨pc, hpc, hl⟩ := H1.out.look k g l hG
    have hpg := H1.out.page k g l hG
    have hl' := fun q => (hl (w1.drewN q) rfl).1
    rw [hkv] at hl'
    have HG := Lib.hid hG
    have HP := Lib.hid hpg
    clear hG hkv hpg hl
    have hcp := fun W => cut_page W g pc f t hpc (by have := HT.out; omega) (by have := HT.out; omega)
    have htf : t - f = c := by have := HT.out; omega
    rw [htf] at hcp
    clear htf
    have hcl := fun q ty => clear_own (w1.drewN q) g f c (pc - f) l HP.out.2.1 (by have := HP.out.2.2.1; omega) hc ty
    go_quiet (fail)
    go_wp2_with fail
    go_end0
    have hw := H1.out.drewN nq |>.write k g l HG.out f (List.replicate c 0) (by simp; exact hf)
    refine ⟨rfl, _, hw, ?_, fun b => Mine.setG_same HG.out b, (K1.out.drewN nq).setCells (g := g) (fun _ => Or.inr (Or.inr ⟨k, l, HG.out⟩)) _ _⟩
    rw [bytesOf_setG G k f g l _ HP.out.2.2.1 (by simp; exact hf) (Or.inl (by rw [HG.out]; rfl)), M.zr_eq]
end Go.Proofs.Ytmagdhcpbofkbaa
/-
  What Store's closure does to one page's bytes.
-/
namespace Go.Proofs.Ytmagdhcpbofkbaa
open Go.ChangeShapes Go.WideShapes Go.ChangeAt Go.RowKit
set_option linter.unusedVariables false
set_option maxRecDepth 20000

/-- What one page's store leaves. -/
def St1 (w w' : World) (s m P T : Nat) (G : Pgs) (br : Nat) (A : Option Addr) (xs : List UInt8) (r rc a c : Nat) : Prop :=
  ∃ G' A', IsSp w' s m P T G' ∧ bytesOf G' = M.wr (bytesOf G) a (xs.take c) ∧ (∀ b, Mine s m G' b → Mine s m G b ∨ w.heap.size ≤ b) ∧
    w'.cell? ⟨br, 0, none⟩ = some (.slice A' (r - c) (rc - c)) ∧ w'.frozen? ⟨br, 0, none⟩ = false ∧ Lies w' A' (u8s (xs.drop c)) ∧ (∀ a, A' = some a → ∃ a', A = some a' ∧ a.block = a'.block) ∧ Kept w w' (fun b => Mine s m G b ∨ b = br)
theorem bytesOf_lay (G : Pgs) (k g : Nat) (h : G k = none) : bytesOf (setG G k (g, List.replicate 4096 0)) = bytesOf G := by
  have hs : ∀ l : List UInt8, M.splice l 0 [] = l := fun l => by simp [M.splice]
  have := bytesOf_setG G k 0 g (List.replicate 4096 0) [] (List.length_replicate ..) (by simp) (Or.inr ⟨h, rfl⟩)
  rw [M.wr_nil, hs] at this
  exact this

theorem store1_any {w : World} {s m P T : Nat} {G : Pgs} (h : IsSp w s m P T G) (bs br : Nat) (hbs : w.cell? ⟨bs, 0, none⟩ = some (.pointer (some ⟨s, 0, none⟩)))
    (A : Option Addr) (xs : List UInt8) (r rc : Nat) (hr : xs.length = r) (hrc : r ≤ rc) (hbr : w.cell? ⟨br, 0, none⟩ = some (.slice A r rc)) (hfr : w.frozen? ⟨br, 0, none⟩ = false)
    (hx : Lies w A (u8s xs)) (k f c : Nat) (hk : k < P) (hc : 0 < c) (hcr : c ≤ r) (hf : f + c ≤ 4096) (n2 : bs ≠ br) (n3 : ¬ Mine s m G bs) (n5 : ¬ Mine s m G br) (n6 : ∀ ad, A = some ad → ¬ Mine s m G ad.block ∧ ad.block ≠ br) :
    Calls Try.prog 67 #[keyV k, .int .u64 (f : Int), .int .u64 ((f + c : Nat) : Int), .pointer (some ⟨bs, 0, none⟩), .pointer (some ⟨br, 0, none⟩)] w
      fun e w' => e = .returned (.tuple #[]) ∧ St1 w w' s m P T G br A xs r rc (k * 4096 + f) c := by
  have hkey : ∃ ka kb : Int, keyV k = .agg #[.int .i64 ka, .int .i64 kb] := ⟨_, _, rfl⟩
  obtain ⟨ka, kb, hkv⟩ := hkey
  rw [hkv]
  obtain ⟨t, ht⟩ : ∃ t, t = f + c := ⟨_, rfl⟩
  rw [← ht]
  have HT := Lib.hid ht; clear ht
  have hslt := h.slt
  have hmlt := h.mlt
  have hbsl := lt_of_cell hbs
  have hbrl := lt_of_cell hbr
  obtain ⟨A', hcut, hdrop, hadd, hblk⟩ := cut_u A r rc c hcr hrc
  have hsub : IntKind.u64.wrap ((t : Int) - f) = (c : Int) := by have := HT.out; rw [wrapU]; omega
  have HC := Lib.hid (show _ ∧ _ from ⟨hdrop, hblk⟩)
  have HN := Lib.hid (show bs ≠ br ∧ ¬ Mine s m G bs ∧ ¬ Mine s m G br ∧ ∀ ad, A = some ad → ¬ Mine s m G ad.block ∧ ad.block ≠ br from ⟨n2, n3, n5, n6⟩)
  have HR := Lib.hid (show xs.length = r ∧ c ≤ r ∧ r ≤ rc from ⟨hr, hcr, hrc⟩)
  clear hadd hdrop hblk n2 n3 n5 n6 hr hcr hrc
  go_enter Try.func67, Try.ntmps67
  go_wp2_with fail
  have hk0 := (World.cell?_alloc_mark w #[.int .i64 ka, .int .i64 kb] 112 (0, 0) 0)
  have hk1 := (World.cell?_alloc_mark w #[.int .i64 ka, .int .i64 kb] 112 (0, 0) 1)
  have K1 := Lib.hid ((Kept.refl w (fun b => Mine s m G b ∨ b = br)).alloc (.cells #[.int .i64 ka, .int .i64 kb] 112))
  have h1 := h.alloc (.cells #[.int .i64 ka, .int .i64 kb] 112)
  have x1 := hx.alloc (.cells #[.int .i64 ka, .int .i64 kb] 112)
  have b1 := (World.cell?_alloc_lt w (.cells #[.int .i64 ka, .int .i64 kb] 112) ⟨bs, 0, none⟩ hbsl).trans hbs
  have b2 := (World.cell?_alloc_lt w (.cells #[.int .i64 ka, .int .i64 kb] 112) ⟨br, 0, none⟩ hbrl).trans hbr
  have b3 := (World.frozen?_of_block (w := w) (w' := w.alloc (.cells #[.int .i64 ka, .int .i64 kb] 112)) (a := ⟨br, 0, none⟩) (Below.heap_alloc w _ br hbrl)).trans hfr
  have hsz : (w.alloc (.cells #[.int .i64 ka, .int .i64 kb] 112)).heap.size = w.heap.size + 1 := by simp
  generalize hw1 : w.alloc (.cells #[.int .i64 ka, .int .i64 kb] 112) = w1 at hk0 hk1 K1 h1 x1 b1 b2 b3 hsz ⊢
  clear hw1
  generalize hkb : w.heap.size = kb0 at *
  have c1 := h1.c1
  have H1 := Lib.hid h1
  have X1 := Lib.hid x1
  have SZ := Lib.hid (show w.heap.size = kb0 ∧ w1.heap.size = kb0 + 1 from ⟨hkb, hsz⟩)
  clear h hbs h1 x1 hx hbr hfr hkb hsz
  rcases hG : G k with _ | ⟨g, l⟩
  · have hl := fun q => (H1.out.drewN q).look_no k hk hG
    rw [hkv] at hl
    have HG := Lib.hid hG
    have HK := Lib.hid hkv
    clear hG hkv
    go_quiet (fail)
    clear hl
    go_wp2_with fail
    have H2 := Lib.hid (H1.out.drewN nq).drew
    have X2 : Lies (w1.drewN nq).drew A (u8s xs) := X1.out
    have K2 := Lib.hid (K1.out.drewN nq).drew
    have z2 : (w1.drewN nq).heap.size = kb0 + 1 := SZ.out.2
    have b1q : (w1.drewN nq).cell? ⟨bs, 0, none⟩ = some (.pointer (some ⟨s, 0, none⟩)) := b1
    have b2q : (w1.drewN nq).cell? ⟨br, 0, none⟩ = some (.slice A r rc) := b2
    have b3q : (w1.drewN nq).frozen? ⟨br, 0, none⟩ = false := b3
    have c1q : (w1.drewN nq).cell? ⟨s, 1, none⟩ = some (.map (some m)) := c1
    have k0q : (w1.drewN nq).cell? ⟨kb0, 0, none⟩ = some (.int .i64 ka) := hk0
    have k1q : (w1.drewN nq).cell? ⟨kb0, 1, none⟩ = some (.int .i64 kb) := hk1
    generalize hw2 : w1.drewN nq = w2 at *
    clear hw2 hk0 hk1 b1 b2 b3 c1
    obtain ⟨ob, hob⟩ : ∃ ob, ob = Obj.cells (madeCells #[.int .u8 0] 4096) 5 := ⟨_, rfl⟩
    have hmk : ∀ W, (Instr.makeSlice 22 (.int .i64 4096) (.int .i64 4096)).run Try.prog W = .ok (.slice (some ⟨W.heap.size, 0, none⟩) 4096 4096) (W.alloc ob) := fun W => by
      rw [hob]
      exact make22 4096 4096 rfl (by omega) W
    have ho2 : Own (w2.drew.alloc ob) (kb0 + 1) (List.replicate 4096 0) := by
      rw [hob, ← z2]
      exact own_made 4096 w2.drew
    have hnm : ¬ Mine s m G (kb0 + 1) := fun hb => by
      have h1 := H2.out.mine_lt hb
      have h2 : w2.drew.heap.size = w2.heap.size := rfl
      omega
    have hsz3 : (w2.drew.alloc ob).heap.size = kb0 + 2 := by
      have h2 : w2.drew.heap.size = w2.heap.size := rfl
      simp; omega
    obtain ⟨w5, hup, h5, hg5⟩ := (H2.out.alloc ob).lay k hk HG.out (kb0 + 1) 4096 (Nat.le_refl _) (List.replicate 4096 0) (List.length_replicate ..) ho2 (by omega) hnm
    rw [HK.out] at hup
    have HK5 := Lib.hid h5
    have G5 := Lib.hid hg5
    have O2 := Lib.hid (show ob = _ ∧ _ ∧ _ from ⟨hob, hnm, hsz3⟩)
    have XX := Lib.hid X2
    clear h5 hg5 hob ho2 hnm hsz3 X2
    have hup' : (Instr.mapUpdate 76 (.map (some m)) (.agg #[.int .i64 ka, .int .i64 kb]) (.slice (some ⟨kb0 + 1, 0, none⟩) 4096 4096)).run Try.prog (w2.alloc ob).drew = .ok () w5 := hup
    clear hup
    go_region
    have K25 : Kept w2.drew w5 (fun b => b = m) := ((Kept.refl w2.drew (fun b => b = m)).alloc ob).grown G5.out (fun b e _ => by injection e with e; exact e.symm)
    have hbrm : ¬ br = m := fun e => HN.out.2.2.1 (Or.inr (Or.inl e))
    have hbsm : ¬ bs = m := fun e => HN.out.2.1 (Or.inr (Or.inl e))
    have hsm : ¬ s = m := fun e => H2.out.ne e.symm
    have hkm : ¬ kb0 = m := fun e => by omega
    have b1y : w5.cell? ⟨bs, 0, none⟩ = some (.pointer (some ⟨s, 0, none⟩)) := K25.cell_some (p := ⟨bs, 0, none⟩) b1q hbsm
    have b2y : w5.cell? ⟨br, 0, none⟩ = some (.slice A r rc) := K25.cell_some (p := ⟨br, 0, none⟩) b2q hbrm
    have b3y : w5.frozen? ⟨br, 0, none⟩ = false := (K25.frozen (p := ⟨br, 0, none⟩) (lt_of_cell (w := w2.drew) (p := ⟨br, 0, none⟩) b2q) hbrm).trans b3q
    have k0y : w5.cell? ⟨kb0, 0, none⟩ = some (.int .i64 ka) := K25.cell_some (p := ⟨kb0, 0, none⟩) k0q hkm
    have k1y : w5.cell? ⟨kb0, 1, none⟩ = some (.int .i64 kb) := K25.cell_some (p := ⟨kb0, 1, none⟩) k1q hkm
    have hxl : ∀ ad, A = some ad → 0 < (u8s xs).length → ad.block < kb0 + 1 := fun ad e hn => by
      obtain ⟨ad', e', hc'⟩ := XX.out hn
      have h1 := lt_of_cell (hc' 0 hn)
      rw [block_of_add] at h1
      have h2 : w2.drew.heap.size = w2.heap.size := rfl
      rw [e'] at e
      injection e with e
      subst e
      omega
    have XY : Lies w5 A (u8s xs) := K25.lies XX.out (fun hn ad e em => (HN.out.2.2.2 ad e).1 (Or.inr (Or.inl em)))
    have XY := Lib.hid XY
    have KY := Lib.hid ((K2.out.alloc ob).grown G5.out (fun b e _ => by injection e with e; exact Or.inl (Or.inr (Or.inl e.symm))))
    obtain ⟨l, hl⟩ : ∃ l : List UInt8, l = List.replicate 4096 0 := ⟨_, rfl⟩
    obtain ⟨g, hg⟩ : ∃ g, g = kb0 + 1 := ⟨_, rfl⟩
    rw [← hl, ← hg] at HK5
    have HGY := Lib.hid (setG_same G k (g, l))
    have HY := HK5
    have HNY := Lib.hid (show g ≠ br ∧ (0 < (u8s xs).length → ∀ ad, A = some ad → ¬ ad.block = g) from ⟨by omega, fun hn ad e eg => by have := hxl ad e hn; omega⟩)
    have HGO := Lib.hid (show g < w.heap.size → Mine s m G g ∨ g = br from fun h => by have := SZ.out; omega)
    have HMY := Lib.hid (show ∀ b, Mine s m (setG G k (g, l)) b → Mine s m G b ∨ w.heap.size ≤ b from fun b hb => by
      rcases hb.of_setG with h | h
      · exact Or.inl h
      · right; have := SZ.out; omega)
    have HB := Lib.hid (show bytesOf (setG G k (g, l)) = bytesOf G by rw [hl]; exact bytesOf_lay G k g HG.out)
    generalize hG1 : setG G k (g, l) = G1 at HGY HY HMY HB
    clear hG1 hl hg HK5 hxl K25 hbrm hbsm hsm hkm hup' G5 O2 XX hmk z2 b1q b2q b3q c1q k0q k1q H2 K2 HG
    go_wp2_with fail
    obtain ⟨pc, hpc, hl⟩ := HY.out.look k g l HGY.out
    have HL := Lib.hid hl
    have hcp := fun W => cut_page W g pc f t hpc (by have := HT.out; omega) (by have := HT.out; omega)
    have htf : t - f = c := by have := HT.out; omega
    rw [htf] at hcp
    clear htf hl
    refine still_tail 10 (by kernel_rfl) (by kernel_rfl) (fun w3 hw3 => ?_)
    have b1' : w3.cell? ⟨bs, 0, none⟩ = some (.pointer (some ⟨s, 0, none⟩)) := by rw [hw3]; exact b1y
    have b2' : w3.cell? ⟨br, 0, none⟩ = some (.slice A r rc) := by rw [hw3]; exact b2y
    have b3' : w3.frozen? ⟨br, 0, none⟩ = false := by rw [hw3]; exact b3y
    have h3 : IsSp w3 s m P T G1 := by rw [hw3]; exact HY.out.drew
    have c1' := h3.c1
    have hk0' : w3.cell? ⟨kb0, 0, none⟩ = some (.int .i64 ka) := by rw [hw3]; exact k0y
    have hk1' : w3.cell? ⟨kb0, 1, none⟩ = some (.int .i64 kb) := by rw [hw3]; exact k1y
    have x3 : Lies w3 A (u8s xs) := by rw [hw3]; exact XY.out
    have hl3 := (HL.out w3 (by rw [hw3]; rfl)).2
    rw [HK.out] at hl3
    have hpl : (xs.take c).length = c := by have := HR.out; simp; omega
    have hll := (h3.page k g l HGY.out).2.2.1
    have hco := fun ty => copy_own w3 g f c (pc - f) l (h3.page k g l HGY.out).2.1 A r rc xs (xs.take c) (by have := HR.out; rw [hpl]; omega) (by rw [hpl]; omega) x3 (by rw [hpl]) (by rw [hpl]; exact hc) ty
    rw [hpl] at hco
    have K3 : Kept w w3 (fun b => Mine s m G b ∨ b = br) := by rw [hw3]; exact KY.out.drew
    have H4 := Lib.hid (h3.write k g l HGY.out f (xs.take c) (by rw [hpl]; exact hf))
    have K4 : Kept w3 (w3.setCells g f (u8s (xs.take c))) (fun b => b = g) := (Kept.refl _ (fun b => b = g)).setCells (g := g) (fun _ => rfl) _ _
    have X4 := Lib.hid (K4.lies x3 (fun hn ad e eg => HNY.out.2 hn ad e eg))
    have hb4 := K4.cell_some b2' (fun e => HNY.out.1 e.symm)
    have hf4 : (w3.setCells g f (u8s (xs.take c))).frozen? ⟨br, 0, none⟩ = false := (World.frozen?_setCells _ _ _ _ _).trans b3'
    have KB := Lib.hid (K3.setCells (g := g) HGO.out (u8s (xs.take c)) f)
    have HE := Lib.hid (show bytesOf (setG G1 k (g, M.splice l f (xs.take c))) = M.wr (bytesOf G) (k * 4096 + f) (xs.take c) from (bytesOf_setG G1 k f g l (xs.take c) hll (by rw [hpl]; exact hf) (Or.inl (by rw [HGY.out]; rfl))).trans (by rw [HB.out]))
    clear hpl hw3 x3 h3 K4 b1y b2y b3y k0y k1y b3' K3 hll
    simp only [List.take_succ_cons, List.take_zero, List.drop_succ_cons, List.drop_zero]
    repeat still_step
    refine wpStill_nil ?_
    generalize hw4 : w3.setCells g f (u8s (xs.take c)) = w4 at *
    clear hw4
    go_wp2_with fail
    go_end0
    have K5 : Kept w4 (w4.setCell ⟨br, 0, none⟩ (.slice A' (r - c) (rc - c))) (fun b => b = br) := (Kept.refl _ (fun b => b = br)).setCell (p := ⟨br, 0, none⟩) (fun _ => rfl) _
    have hm4 : ∀ b, Mine s m (setG G1 k (g, M.splice l f (xs.take c))) b → Mine s m G b ∨ w.heap.size ≤ b := fun b hb => HMY.out b ((Mine.setG_same HGY.out b).1 hb)
    refine ⟨rfl, show St1 .. from ?_⟩
    refine ⟨_, A', H4.out.kept K5 (fun b hb e => ?_), HE.out, hm4, World.cell?_setCell_same _ _ _ hb4, (World.frozen?_setCell _ _ _ _).trans hf4, ?_, HC.out.2, KB.out.setCell (p := ⟨br, 0, none⟩) (fun _ => Or.inr rfl) _⟩
    · have eb : b = br := e
      subst eb
      rcases hm4 b hb with h | h
      · exact HN.out.2.2.1 h
      · have := SZ.out; omega
    · have := HC.out.1 w4 (u8s xs) (by rw [u8s_length]; exact HR.out.1) X4.out
      rw [← u8s_drop] at this
      exact K5.lies this (fun hn ad e eb => by
        obtain ⟨a', e1, e2⟩ := HC.out.2 ad e
        have := (HN.out.2.2.2 a' e1).2
        have eb' : ad.block = br := eb
        omega)
  · have hpg := H1.out.page k g l hG
    obtain ⟨pc0, hpc0, hl⟩ := H1.out.look k g l hG
    have hl' := fun q => (hl (w1.drewN q) rfl).1
    rw [hkv] at hl'
    have HGY := Lib.hid hG
    have HK := Lib.hid hkv
    clear hG hpg hl hkv
    go_quiet (fail)
    clear hl'
    go_wp2_with fail
    have HY := Lib.hid (H1.out.drewN nq)
    have XY : Lies (w1.drewN nq) A (u8s xs) := X1.out
    have XY := Lib.hid XY
    have KY := Lib.hid (K1.out.drewN nq)
    have b1y : (w1.drewN nq).cell? ⟨bs, 0, none⟩ = some (.pointer (some ⟨s, 0, none⟩)) := b1
    have b2y : (w1.drewN nq).cell? ⟨br, 0, none⟩ = some (.slice A r rc) := b2
    have b3y : (w1.drewN nq).frozen? ⟨br, 0, none⟩ = false := b3
    have k0y : (w1.drewN nq).cell? ⟨kb0, 0, none⟩ = some (.int .i64 ka) := hk0
    have k1y : (w1.drewN nq).cell? ⟨kb0, 1, none⟩ = some (.int .i64 kb) := hk1
    have HNY := Lib.hid (show g ≠ br ∧ (0 < (u8s xs).length → ∀ ad, A = some ad → ¬ ad.block = g) from ⟨fun e => HN.out.2.2.1 (Or.inr (Or.inr ⟨k, l, e ▸ HGY.out⟩)), fun _ ad e eg => (HN.out.2.2.2 ad e).1 (Or.inr (Or.inr ⟨k, l, eg ▸ HGY.out⟩))⟩)
    have HGO := Lib.hid (show g < w.heap.size → Mine s m G g ∨ g = br from fun _ => Or.inl (Or.inr (Or.inr ⟨k, l, HGY.out⟩)))
    have HMY := Lib.hid (show ∀ b, Mine s m G b → Mine s m G b ∨ w.heap.size ≤ b from fun _ h => Or.inl h)
    generalize hw2 : w1.drewN nq = wy at *
    clear hw2 hk0 hk1 b1 b2 b3 c1
    obtain ⟨pc, hpc, hl⟩ := HY.out.look k g l HGY.out
    have HL := Lib.hid hl
    have hcp := fun W => cut_page W g pc f t hpc (by have := HT.out; omega) (by have := HT.out; omega)
    have htf : t - f = c := by have := HT.out; omega
    rw [htf] at hcp
    clear htf hl
    refine still_tail 10 (by kernel_rfl) (by kernel_rfl) (fun w3 hw3 => ?_)
    have b1' : w3.cell? ⟨bs, 0, none⟩ = some (.pointer (some ⟨s, 0, none⟩)) := by rw [hw3]; exact b1y
    have b2' : w3.cell? ⟨br, 0, none⟩ = some (.slice A r rc) := by rw [hw3]; exact b2y
    have b3' : w3.frozen? ⟨br, 0, none⟩ = false := by rw [hw3]; exact b3y
    have h3 : IsSp w3 s m P T G := by rw [hw3]; exact HY.out.drew
    have c1' := h3.c1
    have hk0' : w3.cell? ⟨kb0, 0, none⟩ = some (.int .i64 ka) := by rw [hw3]; exact k0y
    have hk1' : w3.cell? ⟨kb0, 1, none⟩ = some (.int .i64 kb) := by rw [hw3]; exact k1y
    have x3 : Lies w3 A (u8s xs) := by rw [hw3]; exact XY.out
    have hl3 := (HL.out w3 (by rw [hw3]; rfl)).2
    rw [HK.out] at hl3
    have hpl : (xs.take c).length = c := by have := HR.out; simp; omega
    have hll := (h3.page k g l HGY.out).2.2.1
    have hco := fun ty => copy_own w3 g f c (pc - f) l (h3.page k g l HGY.out).2.1 A r rc xs (xs.take c) (by have := HR.out; rw [hpl]; omega) (by rw [hpl]; omega) x3 (by rw [hpl]) (by rw [hpl]; exact hc) ty
    rw [hpl] at hco
    have K3 : Kept w w3 (fun b => Mine s m G b ∨ b = br) := by rw [hw3]; exact KY.out.drew
    have H4 := Lib.hid (h3.write k g l HGY.out f (xs.take c) (by rw [hpl]; exact hf))
    have K4 : Kept w3 (w3.setCells g f (u8s (xs.take c))) (fun b => b = g) := (Kept.refl _ (fun b => b = g)).setCells (g := g) (fun _ => rfl) _ _
    have X4 := Lib.hid (K4.lies x3 (fun hn ad e eg => HNY.out.2 hn ad e eg))
    have hb4 := K4.cell_some b2' (fun e => HNY.out.1 e.symm)
    have hf4 : (w3.setCells g f (u8s (xs.take c))).frozen? ⟨br, 0, none⟩ = false := (World.frozen?_setCells _ _ _ _ _).trans b3'
    have KB := Lib.hid (K3.setCells (g := g) HGO.out (u8s (xs.take c)) f)
    have HE := Lib.hid (show bytesOf (setG G k (g, M.splice l f (xs.take c))) = M.wr (bytesOf G) (k * 4096 + f) (xs.take c) from (bytesOf_setG G k f g l (xs.take c) hll (by rw [hpl]; exact hf) (Or.inl (by rw [HGY.out]; rfl))).trans rfl)
    clear hpl hw3 x3 h3 K4 b1y b2y b3y k0y k1y b3' K3 hll
    simp only [List.take_succ_cons, List.take_zero, List.drop_succ_cons, List.drop_zero]
    repeat still_step
    refine wpStill_nil ?_
    generalize hw4 : w3.setCells g f (u8s (xs.take c)) = w4 at *
    clear hw4
    go_wp2_with fail
    go_end0
    have K5 : Kept w4 (w4.setCell ⟨br, 0, none⟩ (.slice A' (r - c) (rc - c))) (fun b => b = br) := (Kept.refl _ (fun b => b = br)).setCell (p := ⟨br, 0, none⟩) (fun _ => rfl) _
    have hm4 : ∀ b, Mine s m (setG G k (g, M.splice l f (xs.take c))) b → Mine s m G b ∨ w.heap.size ≤ b := fun b hb => HMY.out b ((Mine.setG_same HGY.out b).1 hb)
    refine ⟨rfl, show St1 .. from ?_⟩
    refine ⟨_, A', H4.out.kept K5 (fun b hb e => ?_), HE.out, hm4, World.cell?_setCell_same _ _ _ hb4, (World.frozen?_setCell _ _ _ _).trans hf4, ?_, HC.out.2, KB.out.setCell (p := ⟨br, 0, none⟩) (fun _ => Or.inr rfl) _⟩
    · have eb : b = br := e
      subst eb
      rcases hm4 b hb with h | h
      · exact HN.out.2.2.1 h
      · have := SZ.out; omega
    · have := HC.out.1 w4 (u8s xs) (by rw [u8s_length]; exact HR.out.1) X4.out
      rw [← u8s_drop] at this
      exact K5.lies this (fun hn ad e eb => by
        obtain ⟨a', e1, e2⟩ := HC.out.2 ad e
        have := (HN.out.2.2.2 a' e1).2
        have eb' : ad.block = br := eb
        omega)
end Go.Proofs.Ytmagdhcpbofkbaa
/-
  What Load, Store, Zero and Copy of a space come to.
-/
namespace Go.Proofs.Ytmagdhcpbofkbaa
open Go.ChangeShapes Go.WideShapes Go.ChangeAt Go.RowKit
set_option linter.unusedVariables false
set_option maxRecDepth 20000

/-- A space in memory, by its bytes and its ticks; O: the blocks that it may write. -/
def Sp (w : World) (s P T : Nat) (f : Nat → UInt8) (O : Nat → Prop) : Prop :=
  ∃ m G, IsSp w s m P T G ∧ bytesOf G = f ∧ (∀ b, Mine s m G b → O b) ∧ ∀ b, O b → b < w.heap.size
section
variable {w w' : World} {s P T : Nat} {f : Nat → UInt8} {O O' : Nat → Prop}
theorem Sp.kept (h : Sp w s P T f O) (hk : Kept w w' O') (hO : ∀ b, O b → ¬ O' b) : Sp w' s P T f O := by
  obtain ⟨m, G, h1, h2, h3, h4⟩ := h
  exact ⟨m, G, h1.kept hk (fun b hb => hO b (h3 b hb)), h2, h3, fun b hb => Nat.lt_of_lt_of_le (h4 b hb) hk.size⟩
theorem Sp.below (h : Sp w s P T f O) (hb : Below w.heap.size w w') : Sp w' s P T f O := h.kept (Kept.of_below hb (fun _ => False)) (fun _ _ h => h)
theorem Sp.alloc (h : Sp w s P T f O) (o : Obj) : Sp (w.alloc o) s P T f O := h.kept ((Kept.refl w (fun _ => False)).alloc o) (fun _ _ h => h)
theorem Sp.drew (h : Sp w s P T f O) : Sp w.drew s P T f O := h.kept (Kept.refl w (fun _ => False)).drew (fun _ _ h => h)
theorem Sp.drewN (h : Sp w s P T f O) (n : Nat) : Sp (w.drewN n) s P T f O := h.kept ((Kept.refl w (fun _ => False)).drewN n) (fun _ _ h => h)
theorem Sp.top (h : Sp w s P T f O) : 1 ≤ P ∧ P ≤ 1048576 := by obtain ⟨m, G, h1, _⟩ := h; exact ⟨h1.pos, h1.top⟩
theorem Sp.lt (h : Sp w s P T f O) {b : Nat} (hb : O b) : b < w.heap.size := by obtain ⟨m, G, h1, _, _, h4⟩ := h; exact h4 b hb
theorem Sp.slt (h : Sp w s P T f O) : s < w.heap.size := by obtain ⟨m, G, h1, _⟩ := h; exact h1.slt
theorem Sp.mono (h : Sp w s P T f O) (hO : ∀ b, O b → O' b) (hl : ∀ b, O' b → b < w.heap.size) : Sp w s P T f O' := by
  obtain ⟨m, G, h1, h2, h3, h4⟩ := h
  exact ⟨m, G, h1, h2, fun b hb => hO b (h3 b hb), hl⟩
end
theorem spages_any {w : World} {s P T : Nat} {f : Nat → UInt8} {O : Nat → Prop} (h : Sp w s P T f O) :
    Calls Try.prog 59 #[.pointer (some ⟨s, 0, none⟩)] w fun e w' => e = .returned (.int .i64 (P : Int)) ∧ w = w' := by obtain ⟨m, G, h1, _⟩ := h; exact pages_any h1
theorem ssize_any {w : World} {s P T : Nat} {f : Nat → UInt8} {O : Nat → Prop} (h : Sp w s P T f O) :
    Calls Try.prog 79 #[.pointer (some ⟨s, 0, none⟩)] w fun e w' => e = .returned (.int .u64 ((P * 4096 : Nat) : Int)) ∧ w = w' := by obtain ⟨m, G, h1, _⟩ := h; exact size_any h1
theorem swithin_any {w : World} {s P T : Nat} {f : Nat → UInt8} {O : Nat → Prop} (h : Sp w s P T f O) (a n : Nat) (ha : a < 18446744073709551616) (hn : n < 18446744073709551616) :
    Calls Try.prog 60 #[.pointer (some ⟨s, 0, none⟩), .int .u64 a, .int .u64 n] w fun e w' => e = .returned (.bool (M.inB a n (P * 4096))) ∧ w = w' := by obtain ⟨m, G, h1, _⟩ := h; exact within_any h1 a n ha hn
theorem stouch_any {w : World} {s P T : Nat} {f : Nat → UInt8} {O : Nat → Prop} (h : Sp w s P T f O) (a n : Nat) (ha : a + n ≤ 4294967296) (hT : T + M.touched a n < 9223372036854775808) :
    Calls Try.prog 63 #[.pointer (some ⟨s, 0, none⟩), .int .u64 a, .int .u64 n] w fun e w' => e = .returned (.tuple #[]) ∧ Sp w' s P (T + M.touched a n) f O ∧ Kept w w' O := by
  obtain ⟨m, G, h1, h2, h3, h4⟩ := h
  refine (touch_any h1 a n ha hT).mono ?_
  rintro e w' ⟨rfl, h5, h6⟩
  have hs : ∀ i, i = s → O i := fun i e => h3 i (Or.inl e)
  exact ⟨rfl, ⟨m, G, h5, h2, h3, fun b hb => Nat.lt_of_lt_of_le (h4 b hb) h6.size⟩, h6.mono (fun i _ e => hs i e)⟩
theorem snew_any (x : Int) (P : Nat) (hP : (P : Int) = min (max x 1) 1048576) (w : World) :
    Calls Try.prog 22 #[.int .i64 x] w fun e w' => ∃ s, e = .returned (.pointer (some ⟨s, 0, none⟩)) ∧ Sp w' s P 0 (fun _ => 0) (fun b => w.heap.size ≤ b ∧ b < w'.heap.size) ∧ Below w.heap.size w w' := by
  refine (new_any x P hP w).mono ?_
  rintro e w' ⟨s, m, rfl, h1, h2, h3, h4⟩
  refine ⟨s, rfl, ⟨m, _, h1, M.flat_empty, fun b hb => ⟨?_, h1.mine_lt hb⟩, fun b hb => hb.2⟩, h4⟩
  rcases hb with rfl | rfl | ⟨k, l, e⟩
  · exact h2
  · exact h3
  · cases e

theorem inB_in {a n z : Nat} (h : M.inB a n z = true) : a + n ≤ z := by
  unfold M.inB M.addB M.addV at h
  simp only [Bool.and_eq_true, decide_eq_true_eq] at h
  obtain ⟨h1, h2⟩ := h
  rw [if_pos h1] at h2
  exact h2

theorem makeU (z : Nat) (h : z ≤ 140737488355328) (W : World) :
    (Instr.makeSlice 22 (.int .u64 (z : Int)) (.int .u64 (z : Int))).run Try.prog W = .ok (.slice (some ⟨W.heap.size, 0, none⟩) z z) (W.alloc (.cells (madeCells #[.int .u8 0] z) 5)) :=
  run_make_row' 22 5 (.int .u8 0) 1 Try.underlying22 (by kernel_rfl) rfl .u64 .u64 z (by omega) (by omega) W
theorem call33 (args : Array Value) (w : World) : (callFunc 62 args).run Try.prog w = .ok (.enter 62 args) w := by kernel_rfl
theorem call36 (args : Array Value) (w : World) : (callFunc 67 args).run Try.prog w = .ok (.enter 67 args) w := by kernel_rfl
theorem call37 (args : Array Value) (w : World) : (callFunc 72 args).run Try.prog w = .ok (.enter 72 args) w := by kernel_rfl

/-- 'each' with Load's closure. -/
theorem each_load {w : World} {s m P T : Nat} {G : Pgs} (h : IsSp w s m P T G) (bs br gb a n : Nat) (hbs : w.cell? ⟨bs, 0, none⟩ = some (.pointer (some ⟨s, 0, none⟩)))
    (hbr : w.cell? ⟨br, 0, none⟩ = some (.slice (some ⟨gb, 0, none⟩) n n)) (hfr : w.frozen? ⟨br, 0, none⟩ = false) (ho : Own w gb (List.replicate n 0)) (hgb : gb < w.heap.size)
    (hin : a + n ≤ P * 4096) (n1 : gb ≠ br) (n2 : bs ≠ br) (n3 : bs ≠ gb) (n4 : ¬ Mine s m G gb) (n5 : ¬ Mine s m G br) :
    Calls Try.prog 61 #[.int .u64 a, .int .u64 n, .func (.func 62) #[] #[.pointer (some ⟨bs, 0, none⟩), .pointer (some ⟨br, 0, none⟩)]] w
      fun e w' => e = .returned (.tuple #[]) ∧ Own w' gb (M.rd (bytesOf G) a n) ∧ Kept w w' (fun b => b = gb ∨ b = br) := by
  have ht := h.top
  have hbrl := lt_of_cell hbr
  have hbsl := lt_of_cell hbs
  refine (each_any 62 _ a n (by omega) call33 (fun d wr => d ≤ n ∧ Kept w wr (fun b => b = gb ∨ b = br) ∧ Own wr gb (M.rd (bytesOf G) a d ++ List.replicate (n - d) 0) ∧
    ∃ A, wr.cell? ⟨br, 0, none⟩ = some (.slice A (n - d) (n - d)) ∧ (0 < n - d → A = some ⟨gb, d, none⟩) ∧ wr.frozen? ⟨br, 0, none⟩ = false) w ?_ ?_ ?_).mono ?_
  · exact ⟨Nat.zero_le _, Kept.refl _ _, by rw [M.rd_zero]; exact ho, _, hbr, fun _ => rfl, hfr⟩
  · rintro d wr wr' ⟨hd, hk, ho, A, hA, hA', hf⟩ hb
    have hl := lt_of_cell hA
    exact ⟨hd, hk.trans (Kept.of_below hb _) (fun _ _ h => h), ho.keep (hb.block gb (Nat.lt_of_lt_of_le hgb hk.size)), A, (hb.cell (p := ⟨br, 0, none⟩) hl).trans hA, hA', (World.frozen?_of_block (hb.block br hl)).trans hf⟩
  · rintro d wr hd ⟨hdn, hk, ho, A, hA, hA', hf⟩ c hc
    have hMk : ∀ b, Mine s m G b → ¬ (b = gb ∨ b = br) := fun b hb e => by
      rcases e with rfl | rfl
      · exact n4 hb
      · exact n5 hb
    have hAe := hA' (by omega)
    subst hAe
    have := load1_any (h.kept hk hMk) bs br gb (hk.cell_some hbs (fun e => e.elim n3 n2)) (M.rd (bytesOf G) a d) d (n - d) (n - d - c) (M.rd_length _ _ _) hA hf ho ((a + d) / 4096) ((a + d) % 4096) c (by omega) (by omega) (by omega) (by omega) n1 n2 n3 n4 n5
    refine Calls.mono this ?_
    rintro e w' ⟨rfl, A2, hA2, hA2', hf2, ho2, hk2⟩
    refine ⟨rfl, by omega, hk.trans hk2 (fun _ _ h => h), ?_, A2, by rw [hA2]; simp only [Option.some.injEq, Value.slice.injEq, true_and]; omega, fun h => hA2' (by omega), hf2⟩
    have e1 : (a + d) / 4096 * 4096 + (a + d) % 4096 = a + d := by omega
    rw [e1, ← M.rd_add, show n - d - c = n - (d + c) by omega] at ho2
    exact ho2
  · rintro e w' ⟨rfl, _, hk, ho, _⟩
    rw [Nat.sub_self, List.replicate_zero, List.append_nil] at ho
    exact ⟨rfl, ho, hk⟩
end Go.Proofs.Ytmagdhcpbofkbaa
/-
  'each' with Zero's and with Store's closure; then Load, Store, Zero and Copy.
-/
namespace Go.Proofs.Ytmagdhcpbofkbaa
open Go.ChangeShapes Go.WideShapes Go.ChangeAt Go.RowKit
set_option linter.unusedVariables false
set_option maxRecDepth 20000

theorem each_zero {w : World} {s m P T : Nat} {G : Pgs} (h : IsSp w s m P T G) (bs a n : Nat) (hbs : w.cell? ⟨bs, 0, none⟩ = some (.pointer (some ⟨s, 0, none⟩)))
    (hin : a + n ≤ P * 4096) (n4 : ¬ Mine s m G bs) :
    Calls Try.prog 61 #[.int .u64 a, .int .u64 n, .func (.func 72) #[] #[.pointer (some ⟨bs, 0, none⟩)]] w
      fun e w' => e = .returned (.tuple #[]) ∧ ∃ G', IsSp w' s m P T G' ∧ bytesOf G' = M.zr (bytesOf G) a n ∧ (∀ b, Mine s m G' b ↔ Mine s m G b) ∧ Kept w w' (Mine s m G) := by
  have ht := h.top
  refine (each_any 72 _ a n (by omega) call37 (fun d wr => d ≤ n ∧ Kept w wr (Mine s m G) ∧ ∃ G', IsSp wr s m P T G' ∧ bytesOf G' = M.zr (bytesOf G) a d ∧ ∀ b, Mine s m G' b ↔ Mine s m G b) w ?_ ?_ ?_).mono ?_
  · exact ⟨Nat.zero_le _, Kept.refl _ _, G, h, (M.zr_zero _ _).symm, fun _ => Iff.rfl⟩
  · rintro d wr wr' ⟨hd, hk, G', h1, h2, h3⟩ hb
    exact ⟨hd, hk.trans (Kept.of_below hb _) (fun _ _ h => h), G', h1.kept (Kept.of_below hb (fun _ => False)) (fun _ _ h => h), h2, h3⟩
  · rintro d wr hd ⟨hdn, hk, G', h1, h2, h3⟩ c hc
    have := zero1_any h1 bs (hk.cell_some hbs n4) ((a + d) / 4096) ((a + d) % 4096) c (by omega) (by omega) (by omega)
    refine Calls.mono this ?_
    rintro e w' ⟨rfl, G2, g1, g2, g3, g4⟩
    refine ⟨rfl, by omega, hk.trans g4 (fun i _ hi => (h3 i).1 hi), G2, g1, ?_, fun b => (g3 b).trans (h3 b)⟩
    have e1 : (a + d) / 4096 * 4096 + (a + d) % 4096 = a + d := by omega
    rw [g2, h2, e1, M.zr_step]
  · rintro e w' ⟨rfl, _, hk, G', h1, h2, h3⟩
    exact ⟨rfl, G', h1, h2, h3, hk⟩

theorem each_store {w : World} {s m P T : Nat} {G : Pgs} (h : IsSp w s m P T G) (bs br a : Nat) (xs : List UInt8) (A : Option Addr) (rc : Nat) (hbs : w.cell? ⟨bs, 0, none⟩ = some (.pointer (some ⟨s, 0, none⟩)))
    (hbr : w.cell? ⟨br, 0, none⟩ = some (.slice A xs.length rc)) (hfr : w.frozen? ⟨br, 0, none⟩ = false) (hx : Lies w A (u8s xs)) (hrc : xs.length ≤ rc)
    (hin : a + xs.length ≤ P * 4096) (n2 : bs ≠ br) (n3 : ¬ Mine s m G bs) (n5 : ¬ Mine s m G br) (n6 : 0 < xs.length → ∀ ad, A = some ad → ¬ Mine s m G ad.block ∧ ad.block ≠ br ∧ ad.block < w.heap.size) :
    Calls Try.prog 61 #[.int .u64 a, .int .u64 (xs.length : Nat), .func (.func 67) #[] #[.pointer (some ⟨bs, 0, none⟩), .pointer (some ⟨br, 0, none⟩)]] w
      fun e w' => e = .returned (.tuple #[]) ∧ ∃ G', IsSp w' s m P T G' ∧ bytesOf G' = M.wr (bytesOf G) a xs ∧ (∀ b, Mine s m G' b → Mine s m G b ∨ w.heap.size ≤ b) ∧ Kept w w' (fun b => Mine s m G b ∨ b = br) := by
  have ht := h.top
  have hbrl := lt_of_cell hbr
  have hbsl := lt_of_cell hbs
  obtain ⟨n, hn⟩ : ∃ n, n = xs.length := ⟨_, rfl⟩
  rw [← hn] at hbr hrc hin ⊢
  refine (each_any 67 _ a n (by omega) call36 (fun d wr => d ≤ n ∧ Kept w wr (fun b => Mine s m G b ∨ b = br) ∧ (∃ G', IsSp wr s m P T G' ∧ bytesOf G' = M.wr (bytesOf G) a (xs.take d) ∧ ∀ b, Mine s m G' b → Mine s m G b ∨ w.heap.size ≤ b) ∧
    ∃ A', wr.cell? ⟨br, 0, none⟩ = some (.slice A' (n - d) (rc - d)) ∧ wr.frozen? ⟨br, 0, none⟩ = false ∧ Lies wr A' (u8s (xs.drop d)) ∧ (d < n → ∀ ad, A' = some ad → ¬ Mine s m G ad.block ∧ ad.block ≠ br ∧ ad.block < w.heap.size)) w ?_ ?_ ?_).mono ?_
  · exact ⟨Nat.zero_le _, Kept.refl _ _, ⟨G, h, by rw [List.take_zero, M.wr_nil], fun _ h => Or.inl h⟩, A, hbr, hfr, hx, fun h => n6 (by omega)⟩
  · rintro d wr wr' ⟨hd, hk, ⟨G', h1, h2, h3⟩, A', hA, hf, hl, hA'⟩ hb
    have hlt := lt_of_cell hA
    exact ⟨hd, hk.trans (Kept.of_below hb _) (fun _ _ h => h), ⟨G', h1.kept (Kept.of_below hb (fun _ => False)) (fun _ _ h => h), h2, h3⟩, A', (hb.cell (p := ⟨br, 0, none⟩) hlt).trans hA, (World.frozen?_of_block (hb.block br hlt)).trans hf, hl.below hb, hA'⟩
  · rintro d wr hd ⟨hdn, hk, ⟨G', h1, h2, h3⟩, A', hA, hf, hl, hA'⟩ c hc
    have hno : ∀ b, b < w.heap.size → ¬ Mine s m G b → ¬ Mine s m G' b := fun b hb h e => (h3 b e).elim h (fun h => by omega)
    have := store1_any h1 bs br (hk.cell_some hbs (fun e => e.elim n3 n2)) A' (xs.drop d) (n - d) (rc - d) (by simp [hn]) (by omega) hA hf hl ((a + d) / 4096) ((a + d) % 4096) c (by omega) (by omega) (by omega) (by omega) n2
      (hno bs hbsl n3) (hno br hbrl n5) (fun ad e => ⟨hno _ (hA' hd ad e).2.2 (hA' hd ad e).1, (hA' hd ad e).2.1⟩)
    refine Calls.mono this ?_
    rintro e w' ⟨rfl, G2, A2, g1, g2, g3, g4, g5, g6, g7, g8⟩
    refine ⟨rfl, by omega, hk.trans g8 (fun i hi e => ?_), ⟨G2, g1, ?_, fun b hb => ?_⟩, A2, by rw [g4]; simp only [Option.some.injEq, Value.slice.injEq, true_and]; omega, g5, by rw [List.drop_drop] at g6; exact g6, fun _ ad e => ?_⟩
    · rcases e with e | e
      · rcases h3 i e with e | e
        · exact Or.inl e
        · omega
      · exact Or.inr e
    · have e1 : (a + d) / 4096 * 4096 + (a + d) % 4096 = a + d := by omega
      rw [g2, h2, e1, M.wr_step _ _ _ _ _ (by omega)]
    · rcases g3 b hb with e | e
      · exact h3 b e
      · exact Or.inr (Nat.le_trans hk.size e)
    · obtain ⟨a', e1, e2⟩ := g7 ad e
      rw [e2]
      exact hA' hd a' e1
  · rintro e w' ⟨rfl, _, hk, ⟨G', h1, h2, h3⟩, _⟩
    rw [List.take_of_length_le (by omega)] at h2
    exact ⟨rfl, G', h1, h2, h3, hk⟩

theorem load_world (w : World) (s n : Nat) :
    let W := ((w.alloc (.cells #[.pointer (some ⟨s, 0, none⟩)] 44)).alloc (.cells (madeCells #[.int .u8 0] n) 5)).alloc (.cells #[.slice (some ⟨w.heap.size + 1, 0, none⟩) n n] 22)
    W.cell? ⟨w.heap.size, 0, none⟩ = some (.pointer (some ⟨s, 0, none⟩)) ∧ W.cell? ⟨w.heap.size + 1 + 1, 0, none⟩ = some (.slice (some ⟨w.heap.size + 1, 0, none⟩) n n) ∧ W.frozen? ⟨w.heap.size + 1 + 1, 0, none⟩ = false ∧
      Own W (w.heap.size + 1) (List.replicate n 0) ∧ W.heap.size = w.heap.size + 3 ∧ Kept w W (fun _ => False) := by
  intro W
  have z1 : (w.alloc (.cells #[.pointer (some ⟨s, 0, none⟩)] 44)).heap.size = w.heap.size + 1 := by simp
  have z2 : ((w.alloc (.cells #[.pointer (some ⟨s, 0, none⟩)] 44)).alloc (.cells (madeCells #[.int .u8 0] n) 5)).heap.size = w.heap.size + 2 := by simp
  have z3 : W.heap.size = w.heap.size + 3 := by show (World.alloc _ _).heap.size = _; simp
  refine ⟨?_, ?_, ?_, ?_, z3, (((Kept.refl w (fun _ => False)).alloc _).alloc _).alloc _⟩
  · show (World.alloc _ _).cell? _ = _
    rw [World.cell?_alloc_lt _ _ ⟨w.heap.size, 0, none⟩ (by rw [z2]; show w.heap.size < _; omega), World.cell?_alloc_lt _ _ ⟨w.heap.size, 0, none⟩ (by rw [z1]; show w.heap.size < _; omega), World.cell?_alloc_mark]
    rfl
  · have := World.cell?_alloc_mark ((w.alloc (.cells #[.pointer (some ⟨s, 0, none⟩)] 44)).alloc (.cells (madeCells #[.int .u8 0] n) 5)) #[.slice (some ⟨w.heap.size + 1, 0, none⟩) n n] 22 (0, 0) 0
    rw [z2] at this
    exact this
  · have := World.frozen?_alloc_mark ((w.alloc (.cells #[.pointer (some ⟨s, 0, none⟩)] 44)).alloc (.cells (madeCells #[.int .u8 0] n) 5)) #[.slice (some ⟨w.heap.size + 1, 0, none⟩) n n] 22 0
    rw [z2] at this
    rw [show w.heap.size + 1 + 1 = w.heap.size + 2 from rfl]
    rw [this]
    simp
  · have := own_made n (w.alloc (.cells #[.pointer (some ⟨s, 0, none⟩)] 44))
    rw [z1] at this
    exact this.alloc (by rw [z2]; omega) _

/-! Load. -/
theorem load_ok {w : World} {s P T : Nat} {f : Nat → UInt8} {O : Nat → Prop} (h : Sp w s P T f O) (a n : Nat) (ha : a < 18446744073709551616) (hin : M.inB a n (P * 4096) = true) (hn : n ≤ 1048576) (hT : T + M.touched a n < 9223372036854775808) :
    Calls Try.prog 41 #[.pointer (some ⟨s, 0, none⟩), .int .u64 a, .int .u64 n] w fun e w' => ∃ g, e = .returned (.tuple #[.slice (some ⟨g, 0, none⟩) n n, .int .i64 0]) ∧
      w.heap.size ≤ g ∧ g < w'.heap.size ∧ Own w' g (M.rd f a n) ∧ Sp w' s P (T + M.touched a n) f O ∧ Kept w w' O := by
  have hP := h.top
  have hi := inB_in hin
  have HS := Lib.hid h
  clear h
  have mk := makeU n (by omega)
  go_enter Try.func41, Try.ntmps41
  go_wp2_with fail
  refine (swithin_any (HS.out.alloc _) a n ha (by omega)).mono ?_
  rintro e w' ⟨rfl, rfl⟩
  go_wp2_with fail
  obtain ⟨c0, c1, c2, c3, c4, c5⟩ := load_world w s n
  generalize hW : ((w.alloc (.cells #[.pointer (some ⟨s, 0, none⟩)] 44)).alloc (.cells (madeCells #[.int .u8 0] n) 5)).alloc (.cells #[.slice (some ⟨w.heap.size + 1, 0, none⟩) n n] 22) = W at *
  clear hW mk
  generalize hbr : w.heap.size + 1 + 1 = br at c1 c2 ⊢
  generalize hgb : w.heap.size + 1 = gb at c1 c3 ⊢
  generalize hbs : w.heap.size = bs at c0 ⊢
  have HB := Lib.hid (show bs = w.heap.size ∧ gb = w.heap.size + 1 ∧ br = w.heap.size + 2 from ⟨hbs.symm, by omega, by omega⟩)
  clear hbs hgb hbr
  have S3 := HS.out.kept c5 (fun _ _ h => h)
  have hOl := fun b => HS.out.lt (b := b)
  obtain ⟨m, G, h1, h2, h3, h4⟩ := S3
  have hm : ∀ b, w.heap.size ≤ b → ¬ Mine s m G b := fun b hb hM => by have := hOl b (h3 b hM); omega
  refine (each_load h1 bs br gb a n c0 c1 c2 c3 (by have := HB.out; omega) hi (by have := HB.out; omega) (by have := HB.out; omega) (by have := HB.out; omega) (hm _ (by have := HB.out; omega)) (hm _ (by have := HB.out; omega))).mono ?_
  rintro e w4 ⟨rfl, o4, k4⟩
  have c0' := k4.cell_some c0 (by have := HB.out; simp; omega)
  have K4 := Lib.hid k4
  have O4 := Lib.hid o4
  have S4 : Sp w4 s P T f O := ⟨m, G, h1.kept k4 (fun b hb e => by have hl := hOl b (h3 b hb); have := HB.out; omega), h2, h3, fun b hb => Nat.lt_of_lt_of_le (h4 b hb) k4.size⟩
  have C5 := Lib.hid c5
  have H2 := Lib.hid h2
  have Z4 := Lib.hid c4
  clear k4 o4 c5 c0 c1 c2 c3 h1 h2 c4 HS h3 h4 hm
  go_wp2_with fail
  refine (stouch_any S4 a n (by omega) hT).mono ?_
  rintro e w5 ⟨rfl, S5, k5⟩
  have H5 := Lib.hid (show Sp w5 s P (T + M.touched a n) f O ∧ Kept w4 w5 O from ⟨S5, k5⟩)
  clear S5 k5 S4
  go_wp2
  go_ret2
  have hb := HB.out
  have z4 := Z4.out
  have q4 := K4.out.size
  have q5 := H5.out.2.size
  refine ⟨gb, rfl, by omega, by omega, ?_, H5.out.1, ?_⟩
  · have := O4.out
    rw [H2.out] at this
    exact H5.out.2.own this (by omega) (fun e => by have := hOl gb e; omega)
  · refine ((C5.out.mono (O' := O) (fun _ _ h => h.elim)).trans K4.out (fun i hi e => ?_)).trans H5.out.2 (fun _ _ h => h)
    omega
end Go.Proofs.Ytmagdhcpbofkbaa
/-
  Load with an error; Store, Zero and Copy.
-/
namespace Go.Proofs.Ytmagdhcpbofkbaa
open Go.ChangeShapes Go.WideShapes Go.ChangeAt Go.RowKit
set_option linter.unusedVariables false
set_option maxRecDepth 20000

theorem load_range {w : World} {s P T : Nat} {f : Nat → UInt8} {O : Nat → Prop} (h : Sp w s P T f O) (a n : Nat) (ha : a < 18446744073709551616) (hn : n < 18446744073709551616) (hin : M.inB a n (P * 4096) = false) :
    Calls Try.prog 41 #[.pointer (some ⟨s, 0, none⟩), .int .u64 a, .int .u64 n] w fun e w' => e = .returned (.tuple #[.slice none 0 0, .int .i64 3]) ∧ Below w.heap.size w w' := by
  have HS := Lib.hid h
  clear h
  go_enter Try.func41, Try.ntmps41
  go_wp2_with fail
  refine (swithin_any (HS.out.alloc _) a n ha hn).mono ?_
  rintro e w' ⟨rfl, rfl⟩
  go_wp2
  go_ret2
  exact ⟨rfl, (Below.refl _ _).alloc (Nat.le_refl _) _⟩
theorem load_arg {w : World} {s P T : Nat} {f : Nat → UInt8} {O : Nat → Prop} (h : Sp w s P T f O) (a n : Nat) (ha : a < 18446744073709551616) (hn : n < 18446744073709551616) (hin : M.inB a n (P * 4096) = true) (h1 : 1048576 < n) :
    Calls Try.prog 41 #[.pointer (some ⟨s, 0, none⟩), .int .u64 a, .int .u64 n] w fun e w' => e = .returned (.tuple #[.slice none 0 0, .int .i64 1]) ∧ Below w.heap.size w w' := by
  have HS := Lib.hid h
  have hd : decide ((1048576 : Int) < (n : Int)) = true := by simp; omega
  clear h h1
  go_enter Try.func41, Try.ntmps41
  go_wp2_with fail
  refine (swithin_any (HS.out.alloc _) a n ha hn).mono ?_
  rintro e w' ⟨rfl, rfl⟩
  go_wp2
  go_ret2
  exact ⟨rfl, (Below.refl _ _).alloc (Nat.le_refl _) _⟩
theorem load_nil (w : World) (a n : Nat) :
    Calls Try.prog 41 #[.pointer none, .int .u64 a, .int .u64 n] w fun e w' => e = .returned (.tuple #[.slice none 0 0, .int .i64 3]) ∧ Below w.heap.size w w' := by
  go_enter Try.func41, Try.ntmps41
  go_wp2_with fail
  refine (within_nil _ a n).mono ?_
  rintro e w' ⟨rfl, rfl⟩
  go_wp2
  go_ret2
  exact ⟨rfl, (Below.refl _ _).alloc (Nat.le_refl _) _⟩

/-! Store. -/
theorem store_nil (w : World) (a n c : Nat) (A : Option Addr) (hn : n ≤ 9223372036854775807) :
    Calls Try.prog 52 #[.pointer none, .int .u64 a, .slice A n c] w fun e w' => e = .returned (.int .i64 3) ∧ Below w.heap.size w w' := by
  go_enter Try.func52, Try.ntmps52
  go_wp2_with fail
  refine (within_nil _ a n).mono ?_
  rintro e w' ⟨rfl, rfl⟩
  go_wp2
  go_ret
  exact ⟨rfl, (Below.refl _ _).alloc (Nat.le_refl _) _⟩
theorem store_range {w : World} {s P T : Nat} {f : Nat → UInt8} {O : Nat → Prop} (h : Sp w s P T f O) (a n c : Nat) (A : Option Addr) (hn : n ≤ 9223372036854775807) (ha : a < 18446744073709551616) (hin : M.inB a n (P * 4096) = false) :
    Calls Try.prog 52 #[.pointer (some ⟨s, 0, none⟩), .int .u64 a, .slice A n c] w fun e w' => e = .returned (.int .i64 3) ∧ Below w.heap.size w w' := by
  have HS := Lib.hid h
  clear h
  go_enter Try.func52, Try.ntmps52
  go_wp2_with fail
  refine (swithin_any (HS.out.alloc _) a n ha (by omega)).mono ?_
  rintro e w' ⟨rfl, rfl⟩
  go_wp2
  go_ret
  exact ⟨rfl, (Below.refl _ _).alloc (Nat.le_refl _) _⟩
theorem store_arg {w : World} {s P T : Nat} {f : Nat → UInt8} {O : Nat → Prop} (h : Sp w s P T f O) (a n c : Nat) (A : Option Addr) (hn : n ≤ 9223372036854775807) (ha : a < 18446744073709551616) (hin : M.inB a n (P * 4096) = true) (h1 : 1048576 < n) :
    Calls Try.prog 52 #[.pointer (some ⟨s, 0, none⟩), .int .u64 a, .slice A n c] w fun e w' => e = .returned (.int .i64 1) ∧ Below w.heap.size w w' := by
  have HS := Lib.hid h
  have hd : decide ((1048576 : Int) < (n : Int)) = true := by simp; omega
  clear h h1
  go_enter Try.func52, Try.ntmps52
  go_wp2_with fail
  refine (swithin_any (HS.out.alloc _) a n ha (by omega)).mono ?_
  rintro e w' ⟨rfl, rfl⟩
  go_wp2
  go_ret
  exact ⟨rfl, (Below.refl _ _).alloc (Nat.le_refl _) _⟩
theorem store_world (w : World) (s n c : Nat) (A : Option Addr) :
    let W := (w.alloc (.cells #[.pointer (some ⟨s, 0, none⟩)] 44)).alloc (.cells #[.slice A n c] 22)
    W.cell? ⟨w.heap.size, 0, none⟩ = some (.pointer (some ⟨s, 0, none⟩)) ∧ W.cell? ⟨w.heap.size + 1, 0, none⟩ = some (.slice A n c) ∧ W.frozen? ⟨w.heap.size + 1, 0, none⟩ = false ∧ W.heap.size = w.heap.size + 2 ∧ Kept w W (fun _ => False) := by
  intro W
  have z1 : (w.alloc (.cells #[.pointer (some ⟨s, 0, none⟩)] 44)).heap.size = w.heap.size + 1 := by simp
  have z3 : W.heap.size = w.heap.size + 2 := by show (World.alloc _ _).heap.size = _; simp
  refine ⟨?_, ?_, ?_, z3, ((Kept.refl w (fun _ => False)).alloc _).alloc _⟩
  · show (World.alloc _ _).cell? _ = _
    rw [World.cell?_alloc_lt _ _ ⟨w.heap.size, 0, none⟩ (by rw [z1]; show w.heap.size < _; omega), World.cell?_alloc_mark]
    rfl
  · have := World.cell?_alloc_mark (w.alloc (.cells #[.pointer (some ⟨s, 0, none⟩)] 44)) #[.slice A n c] 22 (0, 0) 0
    rw [z1] at this
    exact this
  · have := World.frozen?_alloc_mark (w.alloc (.cells #[.pointer (some ⟨s, 0, none⟩)] 44)) #[.slice A n c] 22 0
    rw [z1] at this
    rw [this]
    simp
theorem store_ok {w : World} {s P T : Nat} {f : Nat → UInt8} {O : Nat → Prop} (h : Sp w s P T f O) (a n c : Nat) (A : Option Addr) (xs : List UInt8) (hx : n = xs.length) (hl : Lies w A (u8s xs)) (hc : n ≤ c) (hap : 0 < xs.length → ∀ ad, A = some ad → ¬ O ad.block)
    (ha : a < 18446744073709551616) (hin : M.inB a n (P * 4096) = true) (hn : n ≤ 1048576) (hT : T + M.touched a n < 9223372036854775808) :
    Calls Try.prog 52 #[.pointer (some ⟨s, 0, none⟩), .int .u64 a, .slice A n c] w fun e w' => e = .returned (.int .i64 0) ∧
      Sp w' s P (T + M.touched a n) (M.wr f a xs) (fun b => O b ∨ (w.heap.size ≤ b ∧ b < w'.heap.size)) ∧ Kept w w' O := by
  have hP := h.top
  have hi := inB_in hin
  have HS := Lib.hid h
  have HX := Lib.hid (show n = xs.length ∧ Lies w A (u8s xs) ∧ (0 < xs.length → ∀ ad, A = some ad → ¬ O ad.block) from ⟨hx, hl, hap⟩)
  clear h hx hl hap
  go_enter Try.func52, Try.ntmps52
  go_wp2_with fail
  refine (swithin_any (HS.out.alloc _) a n ha (by omega)).mono ?_
  rintro e w' ⟨rfl, rfl⟩
  go_wp2_with fail
  obtain ⟨c0, c1, c2, c4, c5⟩ := store_world w s n c A
  generalize hW : (w.alloc (.cells #[.pointer (some ⟨s, 0, none⟩)] 44)).alloc (.cells #[.slice A n c] 22) = W at *
  clear hW
  generalize hbr : w.heap.size + 1 = br at c1 c2 ⊢
  generalize hbs : w.heap.size = bs at c0 ⊢
  have HB := Lib.hid (show bs = w.heap.size ∧ br = w.heap.size + 1 from ⟨hbs.symm, by omega⟩)
  clear hbs hbr
  have S3 := HS.out.kept c5 (fun _ _ h => h)
  have hOl := fun b => HS.out.lt (b := b)
  obtain ⟨m, G, h1, h2, h3, h4⟩ := S3
  have hm : ∀ b, w.heap.size ≤ b → ¬ Mine s m G b := fun b hb hM => by have := hOl b (h3 b hM); omega
  obtain ⟨hx, hl, hap⟩ := HX.out
  have hblk : 0 < xs.length → ∀ ad, A = some ad → ad.block < w.heap.size := fun h0 ad e => by
    obtain ⟨ad', e', hc'⟩ := hl (by rw [u8s_length]; exact h0)
    have hh := lt_of_cell (hc' 0 (by rw [u8s_length]; exact h0))
    rw [block_of_add] at hh
    rw [e] at e'
    injection e' with e'
    rw [e']
    exact hh
  rw [hx] at c1 hc hi ⊢
  refine (each_store h1 bs br a xs A c c0 c1 c2 (c5.lies hl (fun _ _ _ h => h)) hc hi (by have := HB.out; omega) (hm _ (by have := HB.out; omega)) (hm _ (by have := HB.out; omega)) (fun h0 ad e => ⟨fun hM => hap h0 ad e (h3 _ hM), by have := hblk h0 ad e; have := HB.out; omega, by have := hblk h0 ad e; omega⟩)).mono ?_
  rw [← hx]
  rintro e w4 ⟨rfl, G4, g1, g2, g3, g4⟩
  have c0' := g4.cell_some c0 (fun e => e.elim (hm _ (by have := HB.out; show _ ≤ bs; omega)) (by have := HB.out; show ¬ bs = br; omega))
  have S4 : Sp w4 s P T (M.wr f a xs) (fun b => O b ∨ (w.heap.size ≤ b ∧ b < w4.heap.size)) := ⟨m, G4, g1, by rw [g2, h2], fun b hb => (g3 b hb).imp (h3 b) (fun h => ⟨by omega, g1.mine_lt hb⟩), fun b hb => hb.elim (fun h => Nat.lt_of_lt_of_le (hOl b h) (Nat.le_trans c5.size g4.size)) (fun h => h.2)⟩
  have K4 := Lib.hid ((c5.mono (O' := O) (fun _ _ h => h.elim)).trans g4 (fun i hi e => e.elim (h3 i) (fun e => by have := HB.out; omega)))
  clear g1 g2 g3 g4 c0 c1 c2 c4 c5 h1 h2 h3 h4 hm HS hx hl hap hblk
  go_wp2_with fail
  refine (stouch_any S4 a n (by have := HX.out.1; omega) hT).mono ?_
  rintro e w5 ⟨rfl, S5, k5⟩
  have H5 := Lib.hid (show Sp w5 s P (T + M.touched a n) (M.wr f a xs) (fun b => O b ∨ (w.heap.size ≤ b ∧ b < w4.heap.size)) ∧ Kept w4 w5 (fun b => O b ∨ (w.heap.size ≤ b ∧ b < w4.heap.size)) from ⟨S5, k5⟩)
  clear S5 k5 S4
  go_wp2
  go_ret
  have q5 := H5.out.2.size
  refine ⟨rfl, H5.out.1.mono (fun b hb => hb.imp id (fun h => ⟨h.1, by omega⟩)) (fun b hb => hb.elim (fun h => Nat.lt_of_lt_of_le (hOl b h) (Nat.le_trans K4.out.size q5)) (fun h => h.2)), K4.out.trans H5.out.2 (fun i hi e => e.elim id (fun h => by omega))⟩
end Go.Proofs.Ytmagdhcpbofkbaa
/-
  Zero and Copy.
-/
namespace Go.Proofs.Ytmagdhcpbofkbaa
open Go.ChangeShapes Go.WideShapes Go.ChangeAt Go.RowKit
set_option linter.unusedVariables false
set_option maxRecDepth 20000

theorem zero_nil (w : World) (a n : Nat) :
    Calls Try.prog 55 #[.pointer none, .int .u64 a, .int .u64 n] w fun e w' => e = .returned (.int .i64 3) ∧ Below w.heap.size w w' := by
  go_enter Try.func55, Try.ntmps55
  go_wp2_with fail
  refine (within_nil _ a n).mono ?_
  rintro e w' ⟨rfl, rfl⟩
  go_wp2
  go_ret
  exact ⟨rfl, (Below.refl _ _).alloc (Nat.le_refl _) _⟩
theorem zero_range {w : World} {s P T : Nat} {f : Nat → UInt8} {O : Nat → Prop} (h : Sp w s P T f O) (a n : Nat) (ha : a < 18446744073709551616) (hn : n < 18446744073709551616) (hin : M.inB a n (P * 4096) = false) :
    Calls Try.prog 55 #[.pointer (some ⟨s, 0, none⟩), .int .u64 a, .int .u64 n] w fun e w' => e = .returned (.int .i64 3) ∧ Below w.heap.size w w' := by
  have HS := Lib.hid h
  clear h
  go_enter Try.func55, Try.ntmps55
  go_wp2_with fail
  refine (swithin_any (HS.out.alloc _) a n ha hn).mono ?_
  rintro e w' ⟨rfl, rfl⟩
  go_wp2
  go_ret
  exact ⟨rfl, (Below.refl _ _).alloc (Nat.le_refl _) _⟩
theorem zero_ok {w : World} {s P T : Nat} {f : Nat → UInt8} {O : Nat → Prop} (h : Sp w s P T f O) (a n : Nat) (ha : a < 18446744073709551616) (hn : n < 18446744073709551616) (hin : M.inB a n (P * 4096) = true) (hT : T + M.touched a n < 9223372036854775808) :
    Calls Try.prog 55 #[.pointer (some ⟨s, 0, none⟩), .int .u64 a, .int .u64 n] w fun e w' => e = .returned (.int .i64 0) ∧ Sp w' s P (T + M.touched a n) (M.zr f a n) O ∧ Kept w w' O := by
  have hP := h.top
  have hi := inB_in hin
  have HS := Lib.hid h
  clear h
  go_enter Try.func55, Try.ntmps55
  go_wp2_with fail
  refine (swithin_any (HS.out.alloc _) a n ha hn).mono ?_
  rintro e w' ⟨rfl, rfl⟩
  go_wp2_with fail
  have c0 := World.cell?_alloc_mark w #[.pointer (some ⟨s, 0, none⟩)] 44 (0, 0) 0
  have c5 := (Kept.refl w (fun _ => False)).alloc (.cells #[.pointer (some ⟨s, 0, none⟩)] 44)
  generalize hW : w.alloc (.cells #[.pointer (some ⟨s, 0, none⟩)] 44) = W at *
  clear hW
  generalize hbs : w.heap.size = bs at c0 ⊢
  have HB := Lib.hid hbs.symm
  clear hbs
  have S3 := HS.out.kept c5 (fun _ _ h => h)
  have hOl := fun b => HS.out.lt (b := b)
  obtain ⟨m, G, h1, h2, h3, h4⟩ := S3
  have hm : ¬ Mine s m G bs := fun hM => by have := hOl _ (h3 _ hM); have := HB.out; omega
  refine (each_zero h1 bs a n c0 hi hm).mono ?_
  rintro e w4 ⟨rfl, G4, g1, g2, g3, g4⟩
  have c0' : w4.cell? ⟨bs, 0, none⟩ = some (.pointer (some ⟨s, 0, none⟩)) := g4.cell_some c0 hm
  have S4 : Sp w4 s P T (M.zr f a n) O := ⟨m, G4, g1, by rw [g2, h2], fun b hb => h3 b ((g3 b).1 hb), fun b hb => Nat.lt_of_lt_of_le (hOl b hb) (Nat.le_trans c5.size g4.size)⟩
  have K4 := Lib.hid ((c5.mono (O' := O) (fun _ _ h => h.elim)).trans g4 (fun i hi e => h3 i e))
  clear g1 g2 g3 g4 c0 c5 h1 h2 h3 h4 hm HS
  go_wp2_with fail
  refine (stouch_any S4 a n (by omega) hT).mono ?_
  rintro e w5 ⟨rfl, S5, k5⟩
  have H5 := Lib.hid (show Sp w5 s P (T + M.touched a n) (M.zr f a n) O ∧ Kept w4 w5 O from ⟨S5, k5⟩)
  clear S5 k5 S4
  go_wp2
  go_ret
  exact ⟨rfl, H5.out.1, K4.out.trans H5.out.2 (fun _ _ h => h)⟩

/-! Copy. -/
end Go.Proofs.Ytmagdhcpbofkbaa
/-
  What laws over spaces go by: a space beside the arguments, and slices that were loaded.
-/
namespace Go.Proofs.Ytmagdhcpbofkbaa
open Go.ChangeShapes Go.WideShapes Go.ChangeAt Go.RowKit
set_option linter.unusedVariables false
set_option maxRecDepth 20000

/-- The blocks that a space may write behind some calls: those of old, and new ones. -/
abbrev Wid (O : Nat → Prop) (w w' : World) : Nat → Prop := fun b => O b ∨ (w.heap.size ≤ b ∧ b < w'.heap.size)
theorem touch_le {a n P : Nat} (h : M.inB a n (P * 4096) = true) (hP : P ≤ 1048576) : M.touched a n ≤ 1048578 := by
  have h1 := inB_in h
  have h2 := M.touched_le a n
  omega

theorem u16_nat {a : Int} (h : (Lit.int .u16 a).wf = true) : ∃ n : Nat, n < 65536 ∧ a = n := by
  have := bounds_u16 h
  exact ⟨a.toNat, by omega, by omega⟩
theorem in_of {a n z : Nat} (h : a + n ≤ z) (hz : z < 18446744073709551616) : M.inB a n z = true := by
  unfold M.inB M.addB M.addV
  have h1 : a + n < 18446744073709551616 := by omega
  rw [if_pos h1]
  simp [h1, h]
theorem out_of {a n z : Nat} (h : z < a + n) : M.inB a n z = false := by
  unfold M.inB M.addB M.addV
  by_cases h1 : a + n < 18446744073709551616
  · rw [if_pos h1]; simp [h]
  · simp [h1]

theorem lies_low {w : World} {A : Option Addr} {xs : List UInt8} (h : Lies w A (u8s xs)) (h0 : 0 < xs.length) (ad : Addr) (e : A = some ad) : ad.block < w.heap.size := by
  obtain ⟨ad', e', hc⟩ := h (by rw [u8s_length]; exact h0)
  have hh := lt_of_cell (hc 0 (by rw [u8s_length]; exact h0))
  rw [block_of_add] at hh
  rw [e] at e'
  injection e' with e'
  rw [e']
  exact hh
theorem row_top {w : World} {a : Option Addr} {len cap : Nat} {zs : List Int} (h : IsRow .u8 w a len cap zs) : len ≤ 9223372036854775807 := by
  rcases h with ⟨rfl, rfl, rfl, rfl⟩ | ⟨x, rfl, hl, hm, hz, hc, hw⟩
  · exact Nat.zero_le _
  · unfold maxLen at hm; omega
/-- 'b[i:j]'. -/
theorem cut_mid (A : Option Addr) (n cap i j : Nat) (x y : Int) (hx : x = i) (hy : y = j) (hij : i ≤ j) (hj : j ≤ n) (hn : n ≤ cap) : ∃ A' c', (∀ W, (Instr.slice 22 (.slice A n cap) (some (.int .i64 x)) (some (.int .i64 y)) none).run Try.prog W = .ok (.slice A' (j - i) c') W) ∧
    ∀ (W : World) (xs : List Value), xs.length = n → Lies W A xs → Lies W A' ((xs.drop i).take (j - i)) := by
  subst hx hy
  refine ⟨if cap = i then A else A.map (·.add (i * 1)), cap - i, fun W => by rw [run_slice_lh W 22 A n cap und22 .i64 .i64 i j (by omega) (by omega) (by omega), elem22, size5]; simp only [Result.andThen_ok, sliced, Int.toNat_natCast], fun W xs hxn h hn => ?_⟩
  have hl : i < xs.length := by simp at hn; omega
  obtain ⟨ad, rfl, hc⟩ := h (by omega)
  refine ⟨ad.add i, by rw [if_neg (by omega)]; simp, fun q hq => ?_⟩
  rw [add_add, hc (i + q) (by simp at hq; omega)]
  simp

/-- A space that a call made, beside what it was handed. -/
structure At (w0 w : World) (s P T : Nat) (f : Nat → UInt8) (O : Nat → Prop) : Prop where
  sp : Sp w s P T f O
  bel : Below w0.heap.size w0 w
  old : ∀ b, O b → w0.heap.size ≤ b
/-- A slice of bytes that is not the space's. -/
structure Loose (w : World) (O : Nat → Prop) (g : Nat) (l : List UInt8) : Prop where
  own : Own w g l
  no : ¬ O g
  lt : g < w.heap.size
section
variable {w0 w w' : World} {s P T : Nat} {f : Nat → UInt8} {O : Nat → Prop} {g : Nat} {l : List UInt8}
theorem Loose.kept (h : Loose w O g l) (k : Kept w w' O) : Loose w' O g l := ⟨k.own h.own h.lt h.no, h.no, Nat.lt_of_lt_of_le h.lt k.size⟩
theorem Loose.wid (h : Loose w O g l) (k : Kept w w' O) : Loose w' (Wid O w w') g l := ⟨k.own h.own h.lt h.no, fun e => e.elim h.no (fun e => by have := h.lt; omega), Nat.lt_of_lt_of_le h.lt k.size⟩
theorem Loose.conv (h : Loose w O g l) (z c : Nat) (hz : z = l.length) : (convert 22 9 (.slice (some ⟨g, 0, none⟩) z c)).run Try.prog w = .ok (.string ⟨l.toArray⟩) w := conv_at w _ z l c hz h.own.lies
theorem At.kept (h : At w0 w s P T f O) {s' T' : Nat} {f' : Nat → UInt8} {O' : Nat → Prop} (hs : Sp w' s' P T' f' O') (k : Kept w w' O) (hO : ∀ b, O' b → w0.heap.size ≤ b) : At w0 w' s' P T' f' O' :=
  ⟨hs, h.bel.trans (k.below h.bel.size h.old), hO⟩
theorem At.low (h : At w0 w s P T f O) {b : Nat} (hb : b < w0.heap.size) : ¬ O b := fun e => by have := h.old b e; omega
theorem At.wid (h : At w0 w s P T f O) : ∀ b, Wid O w w' b → w0.heap.size ≤ b := fun b e => e.elim (h.old b) (fun e => Nat.le_trans h.bel.size e.1)
theorem At.same (h : At w0 w s P T f O) (hb : Below w.heap.size w w') : At w0 w' s P T f O := ⟨h.sp.below hb, below_call h.bel hb, h.old⟩

theorem at_new (h : Below w0.heap.size w0 w) (x : Int) (P : Nat) (hP : (P : Int) = min (max x 1) 1048576) :
    Calls Try.prog 22 #[.int .i64 x] w fun e w' => ∃ s O, e = .returned (.pointer (some ⟨s, 0, none⟩)) ∧ At w0 w' s P 0 (fun _ => 0) O := by
  refine (snew_any x P hP w).mono ?_
  rintro e w' ⟨s, rfl, S, b⟩
  exact ⟨s, _, rfl, S, below_call h b, fun b hb => Nat.le_trans h.size hb.1⟩
theorem at_load (h : At w0 w s P T f O) (a n : Nat) (hin : a + n ≤ P * 4096) (hn : n ≤ 1048576) (hT : T ≤ 1000000000000) :
    Calls Try.prog 41 #[.pointer (some ⟨s, 0, none⟩), .int .u64 a, .int .u64 n] w fun e w' => ∃ g, e = .returned (.tuple #[.slice (some ⟨g, 0, none⟩) n n, .int .i64 0]) ∧
      At w0 w' s P (T + M.touched a n) f O ∧ Loose w' O g (M.rd f a n) ∧ Kept w w' O ∧ w0.heap.size ≤ g ∧ w.heap.size ≤ g := by
  have hP := h.sp.top
  have hi := in_of hin (by omega)
  have ht := touch_le hi hP.2
  refine (load_ok h.sp a n (by omega) hi hn (by omega)).mono ?_
  rintro e w' ⟨g, rfl, h1, h2, o, S, k⟩
  exact ⟨g, rfl, h.kept S k h.old, ⟨o, fun e => by have := h.sp.lt e; omega, h2⟩, k, Nat.le_trans h.bel.size h1, h1⟩
theorem at_store (h : At w0 w s P T f O) (a n c : Nat) (A : Option Addr) (xs : List UInt8) (hx : n = xs.length) (hl : Lies w A (u8s xs)) (hc : n ≤ c) (hap : 0 < xs.length → ∀ ad, A = some ad → ¬ O ad.block)
    (hin : a + n ≤ P * 4096) (hn : n ≤ 1048576) (hT : T ≤ 1000000000000) :
    Calls Try.prog 52 #[.pointer (some ⟨s, 0, none⟩), .int .u64 a, .slice A n c] w fun e w' => e = .returned (.int .i64 0) ∧ At w0 w' s P (T + M.touched a n) (M.wr f a xs) (Wid O w w') ∧ Kept w w' O := by
  have hP := h.sp.top
  have hi := in_of hin (by omega)
  have ht := touch_le hi hP.2
  refine (store_ok h.sp a n c A xs hx hl hc hap (by omega) hi hn (by omega)).mono ?_
  rintro e w' ⟨rfl, S, k⟩
  exact ⟨rfl, h.kept S k h.wid, k⟩
theorem at_zero (h : At w0 w s P T f O) (a n : Nat) (hin : a + n ≤ P * 4096) (hT : T ≤ 1000000000000) :
    Calls Try.prog 55 #[.pointer (some ⟨s, 0, none⟩), .int .u64 a, .int .u64 n] w fun e w' => e = .returned (.int .i64 0) ∧ At w0 w' s P (T + M.touched a n) (M.zr f a n) O ∧ Kept w w' O := by
  have hP := h.sp.top
  have hi := in_of hin (by omega)
  have ht := touch_le hi hP.2
  refine (zero_ok h.sp a n (by omega) (by omega) hi (by omega)).mono ?_
  rintro e w' ⟨rfl, S, k⟩
  exact ⟨rfl, h.kept S k h.old, k⟩
theorem At.tl (h : At w0 w s P T f O) (a n : Nat) (hin : a + n ≤ P * 4096) : M.touched a n ≤ 1048578 := touch_le (in_of hin (by have := h.sp.top; omega)) h.sp.top.2
theorem size_at (h : At w0 w s P T f O) (Z : Nat) (hZ : Z = P * 4096) :
    Calls Try.prog 79 #[.pointer (some ⟨s, 0, none⟩)] w fun e w' => e = .returned (.int .u64 (Z : Int)) ∧ w = w' := by
  subst hZ
  exact ssize_any h.sp
theorem At.drewN (h : At w0 w s P T f O) (n : Nat) : At w0 (w.drewN n) s P T f O := ⟨h.sp.drewN n, below_drewN' h.bel n, h.old⟩
theorem At.drew (h : At w0 w s P T f O) : At w0 w.drew s P T f O := ⟨h.sp.drew, h.bel.drew, h.old⟩
theorem At.alloc (h : At w0 w s P T f O) (o : Obj) : At w0 (w.alloc o) s P T f O := ⟨h.sp.alloc o, h.bel.alloc h.bel.size o, h.old⟩
end
section
variable {w0 w w' : World} {s P T : Nat} {f : Nat → UInt8} {O O' : Nat → Prop}
theorem At.other (h : At w0 w s P T f O) (k : Kept w w' O') (hd : ∀ b, O b → ¬ O' b) (hb : Below w0.heap.size w0 w') : At w0 w' s P T f O := ⟨h.sp.kept k hd, hb, h.old⟩
theorem At.wid_apart (h : At w0 w s P T f O) (hd : ∀ b, O b → ¬ O' b) : ∀ b, O b → ¬ Wid O' w w' b := fun b hb e => e.elim (hd b hb) (fun e => by have := h.sp.lt hb; omega)
end
end Go.Proofs.Ytmagdhcpbofkbaa
