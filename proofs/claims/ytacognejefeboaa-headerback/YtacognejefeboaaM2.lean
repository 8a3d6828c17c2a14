/-
  Plain mathematics of numbers as bytes, the least byte first. It speaks of no program.
-/
namespace Go.Proofs.Ytacognejefeboaa.M

/-- The bytes of a number's rest, the least one first. -/
def enc : Nat → Nat → List UInt8
  | 0, _ => []
  | k + 1, n => UInt8.ofNat n :: enc k (n / 256)
/-- The number that bytes are. -/
def num : List UInt8 → Nat
  | [] => 0
  | b :: r => b.toNat + 256 * num r

theorem enc_length (k n : Nat) : (enc k n).length = k := by
  induction k generalizing n with
  | zero => rfl
  | succ k ih => simp [enc, ih]
theorem num_lt (l : List UInt8) : num l < 256 ^ l.length := by
  induction l with
  | nil => simp [num]
  | cons b r ih =>
    have := b.toNat_lt
    simp only [num, List.length_cons, Nat.pow_succ]
    omega
theorem num_append (a b : List UInt8) : num (a ++ b) = num a + 256 ^ a.length * num b := by
  induction a with
  | nil => simp [num]
  | cons x r ih =>
    simp only [num, List.cons_append, List.length_cons, Nat.pow_succ, ih]
    rw [Nat.mul_add, Nat.mul_comm (256 ^ r.length) 256, Nat.mul_assoc]
    omega
theorem num_enc (k n : Nat) : num (enc k n) = n % 256 ^ k := by
  induction k generalizing n with
  | zero => simp [enc, num, Nat.mod_one]
  | succ k ih =>
    simp only [enc, num, ih, UInt8.toNat_ofNat']
    have h : 256 ^ (k + 1) = 256 * 256 ^ k := by rw [Nat.pow_succ, Nat.mul_comm]
    rw [h, Nat.mod_mul]
theorem enc_num (l : List UInt8) : enc l.length (num l) = l := by
  induction l with
  | nil => rfl
  | cons b r ih =>
    have hb := b.toNat_lt
    simp only [num, List.length_cons, enc]
    have h1 : (b.toNat + 256 * num r) / 256 = num r := by omega
    rw [h1, ih]
    congr 1
    apply UInt8.toNat_inj.1
    simp only [UInt8.toNat_ofNat']
    omega
theorem enc_mod (k n : Nat) : enc k (n % 256 ^ k) = enc k n := by
  have h := enc_num (enc k n)
  rw [enc_length, num_enc] at h
  exact h
theorem enc_eq (k n m : Nat) (h : n % 256 ^ k = m % 256 ^ k) : enc k n = enc k m := by rw [← enc_mod k n, h, enc_mod]
theorem enc_get (k n i : Nat) (h : i < (enc k n).length) : (enc k n)[i] = UInt8.ofNat (n / 256 ^ i) := by
  induction k generalizing n i with
  | zero => simp [enc] at h
  | succ k ih =>
    cases i with
    | zero => simp [enc]
    | succ i =>
      simp only [enc, List.getElem_cons_succ]
      rw [ih, Nat.div_div_eq_div_mul, Nat.pow_succ, Nat.mul_comm (256 ^ i) 256]
theorem enc_succ (k n : Nat) : enc (k + 1) n = enc k n ++ [UInt8.ofNat (n / 256 ^ k)] := by
  induction k generalizing n with
  | zero => simp [enc]
  | succ k ih =>
    rw [enc, ih, enc]
    simp only [List.cons_append]
    rw [Nat.div_div_eq_div_mul, Nat.pow_succ, Nat.mul_comm (256 ^ k) 256]
theorem enc_add (i j n : Nat) : enc (i + j) n = enc i n ++ enc j (n / 256 ^ i) := by
  induction i generalizing n with
  | zero => simp [enc]
  | succ i ih =>
    rw [Nat.succ_add, enc, ih, enc]
    simp only [List.cons_append]
    rw [Nat.div_div_eq_div_mul, Nat.pow_succ, Nat.mul_comm (256 ^ i) 256]

/-- Is a number of bytes a width? -/
def wide (w : Int) : Bool := w == 1 || (w == 2 || (w == 4 || w == 8))
/-- Are there so many bytes from a place on? -/
def has (z : Nat) (at' w : Int) : Bool := wide w && (decide (0 ≤ at') && decide (at' + w ≤ (z : Int)))
/-- A list behind a number that was put. -/
def put (l : List UInt8) (a k n : Nat) : List UInt8 := l.take a ++ (enc k n ++ l.drop (a + k))
/-- The bytes of a width from a place on. -/
def seg (l : List UInt8) (a k : Nat) : List UInt8 := (l.drop a).take k

theorem wide_cases {w : Int} (h : wide w = true) : ∃ k : Nat, w = k ∧ (k = 1 ∨ k = 2 ∨ k = 4 ∨ k = 8) := by
  simp [wide] at h
  exact ⟨w.toNat, by omega, by omega⟩
theorem wide_nat {k : Nat} (h : k = 1 ∨ k = 2 ∨ k = 4 ∨ k = 8) : wide (k : Int) = true := by
  rcases h with rfl | rfl | rfl | rfl <;> rfl
theorem has_cases {z : Nat} {at' w : Int} (h : has z at' w = true) : ∃ a k : Nat, at' = a ∧ w = k ∧ (k = 1 ∨ k = 2 ∨ k = 4 ∨ k = 8) ∧ a + k ≤ z := by
  simp only [has, Bool.and_eq_true, decide_eq_true_eq] at h
  obtain ⟨k, rfl, hk⟩ := wide_cases h.1
  exact ⟨at'.toNat, k, by omega, rfl, hk, by omega⟩
theorem has_nat {z a k : Nat} (hk : k = 1 ∨ k = 2 ∨ k = 4 ∨ k = 8) (h : a + k ≤ z) : has z (a : Int) (k : Int) = true := by
  simp only [has, Bool.and_eq_true, decide_eq_true_eq]
  exact ⟨wide_nat hk, by omega, by omega⟩
theorem has_not {z a k : Nat} (h : ¬ a + k ≤ z) : has z (a : Int) (k : Int) = false := by
  rw [Bool.eq_false_iff]
  intro hh
  simp only [has, Bool.and_eq_true, decide_eq_true_eq] at hh
  omega

theorem put_length (l : List UInt8) (a k n : Nat) (h : a + k ≤ l.length) : (put l a k n).length = l.length := by
  simp [put, enc_length]; omega
theorem put_zero (l : List UInt8) (a n : Nat) : put l a 0 n = l := by simp [put, enc]
theorem put_succ (l : List UInt8) (a k n : Nat) (h : a + k < l.length) : put l a (k + 1) n = (put l a k n).set (a + k) (UInt8.ofNat (n / 256 ^ k)) := by
  unfold put
  rw [enc_succ]
  have h1 : (l.take a).length = a := by simp; omega
  rw [List.set_append_right _ _ (by omega), h1, show a + k - a = k by omega, List.set_append_right _ _ (by rw [enc_length]; exact Nat.le_refl _), enc_length, Nat.sub_self]
  rw [List.drop_eq_getElem_cons h]
  simp [Nat.add_assoc]
theorem seg_length (l : List UInt8) (a k : Nat) (h : a + k ≤ l.length) : (seg l a k).length = k := by simp [seg]; omega
theorem seg_succ (l : List UInt8) (a k : Nat) (h : a + k < l.length) : seg l a (k + 1) = seg l a k ++ [l[a + k]] := by
  unfold seg
  rw [List.take_succ_eq_append_getElem (by simp; omega)]
  simp
theorem seg_put (l : List UInt8) (a k n : Nat) (h : a + k ≤ l.length) : seg (put l a k n) a k = enc k n := by
  unfold seg put
  have h1 : (l.take a).length = a := by simp; omega
  rw [List.drop_append_of_le_length (by omega), List.drop_of_length_le (by omega), List.nil_append, List.take_append_of_le_length (by rw [enc_length]; exact Nat.le_refl _), List.take_of_length_le (by rw [enc_length]; exact Nat.le_refl _)]
theorem num_seg_succ (l : List UInt8) (a k : Nat) (h : a + k < l.length) : num (seg l a (k + 1)) = num (seg l a k) + 256 ^ k * l[a + k].toNat := by
  rw [seg_succ l a k h, num_append, seg_length l a k (by omega)]
  simp [num]
theorem num_seg_lt (l : List UInt8) (a k : Nat) (h : a + k ≤ l.length) : num (seg l a k) < 256 ^ k := by
  have := num_lt (seg l a k)
  rwa [seg_length l a k h] at this

/-- Numbers as bytes, one behind the other. -/
def bts (k : Nat) (l : List Nat) : List UInt8 := l.flatMap (enc k)
theorem bts_length (k : Nat) (l : List Nat) : (bts k l).length = l.length * k := by
  induction l with
  | nil => simp [bts]
  | cons a r ih => simp only [bts, List.flatMap_cons, List.length_append, enc_length, List.length_cons, Nat.add_mul, Nat.one_mul] at ih ⊢; omega
theorem bts_append (k : Nat) (a b : List Nat) : bts k (a ++ b) = bts k a ++ bts k b := by simp [bts]
theorem bts_one (k n : Nat) : bts k [n] = enc k n := by simp [bts]

/-- What lies in a new row when the first ones of some numbers are put. -/
def part (k : Nat) (l : List Nat) (i : Nat) : List UInt8 := bts k (l.take i) ++ List.replicate ((l.length - i) * k) 0
theorem part_length (k : Nat) (l : List Nat) (i : Nat) (h : i ≤ l.length) : (part k l i).length = l.length * k := by
  simp only [part, List.length_append, bts_length, List.length_replicate, List.length_take]
  rw [Nat.min_eq_left h, ← Nat.add_mul]
  congr 1
  omega
theorem part_zero (k : Nat) (l : List Nat) : part k l 0 = List.replicate (l.length * k) 0 := by simp [part, bts]
theorem part_all (k : Nat) (l : List Nat) : part k l l.length = bts k l := by simp [part]
theorem part_succ (k : Nat) (l : List Nat) (i : Nat) (h : i < l.length) : put (part k l i) (i * k) k l[i] = part k l (i + 1) := by
  have h1 : (bts k (l.take i)).length = i * k := by rw [bts_length, List.length_take, Nat.min_eq_left (by omega)]
  have h2 : l.length - i = (l.length - (i + 1)) + 1 := by omega
  have h3 : ∀ m : Nat, List.drop k (List.replicate ((m + 1) * k) (0 : UInt8)) = List.replicate (m * k) 0 := by
    intro m
    rw [List.drop_replicate]
    congr 1
    rw [Nat.add_mul]
    omega
  unfold put part
  rw [List.take_append_of_le_length (by omega), List.take_of_length_le (by omega), ← List.drop_drop, List.drop_append_of_le_length (by omega), List.drop_of_length_le (l := bts k (l.take i)) (by omega), List.nil_append, h2, h3,
    List.take_succ_eq_append_getElem h, bts_append, bts_one, List.append_assoc]
theorem seg_bts (k : Nat) (l : List Nat) (i : Nat) (h : i < l.length) : seg (bts k l) (i * k) k = enc k l[i] := by
  have e : l = l.take i ++ (l[i] :: l.drop (i + 1)) := by rw [List.getElem_cons_drop, List.take_append_drop]
  have h1 : (bts k (l.take i)).length = i * k := by rw [bts_length, List.length_take, Nat.min_eq_left (by omega)]
  have e2 : bts k l = bts k (l.take i) ++ (enc k l[i] ++ bts k (l.drop (i + 1))) := by
    conv => lhs; rw [e]
    rw [bts_append]
    congr 1
  unfold seg
  rw [e2, List.drop_append_of_le_length (by omega), List.drop_of_length_le (by omega), List.nil_append, List.take_append_of_le_length (by rw [enc_length]; exact Nat.le_refl _), List.take_of_length_le (by rw [enc_length]; exact Nat.le_refl _)]

/-- A number with its sign. -/
def sgn (k n : Nat) : Int := if n % 256 ^ k < 256 ^ k / 2 then (n % 256 ^ k : Nat) else (n % 256 ^ k : Nat) - (256 ^ k : Nat)

/-- All bytes turned. -/
def flip (l : List UInt8) : List UInt8 := l.map fun b => 255 - b
theorem flip_length (l : List UInt8) : (flip l).length = l.length := by simp [flip]
theorem num_flip (l : List UInt8) : num (flip l) + num l + 1 = 256 ^ l.length := by
  induction l with
  | nil => simp [flip, num]
  | cons b r ih =>
    have hb := b.toNat_lt
    have h1 : (255 - b : UInt8).toNat = 255 - b.toNat := by
      rw [UInt8.toNat_sub_of_le _ _ (by rw [UInt8.le_iff_toNat_le]; have : (255 : UInt8).toNat = 255 := rfl; omega)]
      rfl
    simp only [flip, List.map_cons, num, List.length_cons, Nat.pow_succ] at ih ⊢
    rw [h1]
    omega
theorem flip_take_succ (l : List UInt8) (i : Nat) (h : i < l.length) : flip (l.take (i + 1)) = flip (l.take i) ++ [255 - l[i]] := by
  rw [List.take_succ_eq_append_getElem h]; simp only [flip, List.map_append, List.map_cons, List.map_nil]
theorem top_byte (k n : Nat) (hk : 0 < k) : (enc k n)[k - 1]?.map (fun b => decide (b.toNat < 128)) = some (decide (n % 256 ^ k < 256 ^ k / 2)) := by
  obtain ⟨j, rfl⟩ : ∃ j, k = j + 1 := ⟨k - 1, by omega⟩
  have h0 : j < (enc (j + 1) n).length := by rw [enc_length]; omega
  rw [Nat.add_sub_cancel, List.getElem?_eq_getElem h0, enc_get]
  have hp : 0 < 256 ^ j := Nat.pow_pos (by decide)
  have e1 : 256 ^ (j + 1) / 2 = 128 * 256 ^ j := by rw [Nat.pow_succ]; omega
  have e2 : n % 256 ^ (j + 1) = n % 256 ^ j + 256 ^ j * (n / 256 ^ j % 256) := by rw [Nat.pow_succ, Nat.mod_mul]
  have e3 := Nat.mod_lt n hp
  simp only [Option.map_some, UInt8.toNat_ofNat']
  congr 1
  rw [e1, e2, decide_eq_decide]
  generalize n / 256 ^ j % 256 = q
  generalize 256 ^ j = p at *
  have : (2 : Nat) ^ 8 = 256 := rfl
  constructor
  · intro h
    have h' : q ≤ 127 := by omega
    have := Nat.mul_le_mul_left p h'
    omega
  · intro h
    rcases Nat.lt_or_ge q 128 with hq | hq
    · omega
    · have := Nat.mul_le_mul_left p hq
      omega

end Go.Proofs.Ytacognejefeboaa.M
