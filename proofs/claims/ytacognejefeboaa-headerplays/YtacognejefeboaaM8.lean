/-
  Headers as bytes.
-/
import Derived.Test.YtacognejefeboaaM4
namespace Go.Proofs.Ytacognejefeboaa.M

/-- What each header begins with. -/
def mark : List UInt8 := [115, 116, 101, 97, 100, 105, 110, 103]
/-- A header's bytes. -/
def hd (p k o n : Nat) : List UInt8 := mark ++ (enc 4 p ++ (enc 4 k ++ (enc 8 o ++ enc 8 n)))
theorem mark_length : mark.length = 8 := rfl
theorem hd_length (p k o n : Nat) : (hd p k o n).length = 32 := by simp [hd, enc_length, mark]
/-- May a header tell so? -/
def right (p k : Int) : Bool := decide (1 ≤ p) && (decide (p ≤ 1048576) && (decide (0 ≤ k) && decide (k ≤ 255)))
theorem right_iff (p k : Int) : right p k = true ↔ 1 ≤ p ∧ p ≤ 1048576 ∧ 0 ≤ k ∧ k ≤ 255 := by simp [right]
theorem right_not (p k : Int) : right p k = false ↔ ¬ (1 ≤ p ∧ p ≤ 1048576 ∧ 0 ≤ k ∧ k ≤ 255) := by
  rw [← right_iff, Bool.not_eq_true]
/-- What 32 bytes tell. -/
def hP (b : List UInt8) : Nat := num (seg b 8 4)
def hK (b : List UInt8) : Nat := num (seg b 12 4)
def hO (b : List UInt8) : Nat := num (seg b 16 8)
def hN (b : List UInt8) : Nat := num (seg b 24 8)
/-- Are they a header's? -/
def isH (b : List UInt8) : Bool := decide (b.take 8 = mark) && right (hP b : Nat) (hK b : Nat)

theorem hP_lt (b : List UInt8) (h : b.length = 32) : hP b < 4294967296 := by
  have := num_seg_lt b 8 4 (by omega); simpa [hP] using this
theorem hK_lt (b : List UInt8) (h : b.length = 32) : hK b < 4294967296 := by
  have := num_seg_lt b 12 4 (by omega); simpa [hK] using this
theorem hO_lt (b : List UInt8) (h : b.length = 32) : hO b < 18446744073709551616 := by
  have := num_seg_lt b 16 8 (by omega); simpa [hO] using this
theorem hN_lt (b : List UInt8) (h : b.length = 32) : hN b < 18446744073709551616 := by
  have := num_seg_lt b 24 8 (by omega); simpa [hN] using this

theorem seg_app (a b : List UInt8) (i k : Nat) (h : a.length ≤ i) : seg (a ++ b) i k = seg b (i - a.length) k := by
  unfold seg
  rw [List.drop_append, List.drop_of_length_le h, List.nil_append]
theorem seg_head (a b : List UInt8) (k : Nat) (h : a.length = k) : seg (a ++ b) 0 k = a := by
  unfold seg
  rw [List.drop_zero, List.take_append_of_le_length (by omega), List.take_of_length_le (by omega)]
theorem seg_all (a : List UInt8) (k : Nat) (h : a.length = k) : seg a 0 k = a := by
  unfold seg
  rw [List.drop_zero, List.take_of_length_le (by omega)]
section
variable (p k o n : Nat)
theorem take_hd : (hd p k o n).take 8 = mark := by
  unfold hd
  rw [List.take_append_of_le_length (by rw [mark_length]; omega)]
  rfl
theorem seg_hd1 : seg (hd p k o n) 8 4 = enc 4 p := by
  unfold hd
  rw [seg_app _ _ _ _ (by rw [mark_length]; omega), mark_length]
  exact seg_head _ _ _ (enc_length _ _)
theorem seg_hd2 : seg (hd p k o n) 12 4 = enc 4 k := by
  unfold hd
  rw [seg_app _ _ _ _ (by rw [mark_length]; omega), mark_length, seg_app _ _ _ _ (by rw [enc_length]; omega), enc_length]
  exact seg_head _ _ _ (enc_length _ _)
theorem seg_hd3 : seg (hd p k o n) 16 8 = enc 8 o := by
  unfold hd
  rw [seg_app _ _ _ _ (by rw [mark_length]; omega), mark_length, seg_app _ _ _ _ (by rw [enc_length]; omega), enc_length, seg_app _ _ _ _ (by rw [enc_length]; omega), enc_length]
  exact seg_head _ _ _ (enc_length _ _)
theorem seg_hd4 : seg (hd p k o n) 24 8 = enc 8 n := by
  unfold hd
  rw [seg_app _ _ _ _ (by rw [mark_length]; omega), mark_length, seg_app _ _ _ _ (by rw [enc_length]; omega), enc_length, seg_app _ _ _ _ (by rw [enc_length]; omega), enc_length, seg_app _ _ _ _ (by rw [enc_length]; omega), enc_length]
  exact seg_all _ _ (enc_length _ _)
end
theorem hP_hd (p k o n : Nat) (h : p < 4294967296) : hP (hd p k o n) = p := by
  unfold hP; rw [seg_hd1, num_enc]; exact Nat.mod_eq_of_lt (by simpa using h)
theorem hK_hd (p k o n : Nat) (h : k < 4294967296) : hK (hd p k o n) = k := by
  unfold hK; rw [seg_hd2, num_enc]; exact Nat.mod_eq_of_lt (by simpa using h)
theorem hO_hd (p k o n : Nat) (h : o < 18446744073709551616) : hO (hd p k o n) = o := by
  unfold hO; rw [seg_hd3, num_enc]; exact Nat.mod_eq_of_lt (by simpa using h)
theorem hN_hd (p k o n : Nat) (h : n < 18446744073709551616) : hN (hd p k o n) = n := by
  unfold hN; rw [seg_hd4, num_enc]; exact Nat.mod_eq_of_lt (by simpa using h)
theorem isH_hd (p k o n : Nat) (h : right p k = true) : isH (hd p k o n) = true := by
  have h' := (right_iff _ _).1 h
  unfold isH
  rw [take_hd, hP_hd _ _ _ _ (by omega), hK_hd _ _ _ _ (by omega), h]
  simp
/-- The first 24 bytes of a header are those of what it tells. -/
theorem hd_of (b : List UInt8) (hb : b.length = 32) (h : b.take 8 = mark) (m : Nat) : hd (hP b) (hK b) (hO b) m = b.take 24 ++ enc 8 m := by
  have e1 : enc 4 (hP b) = seg b 8 4 := by
    have := enc_num (seg b 8 4)
    rw [seg_length b 8 4 (by omega)] at this
    exact this
  have e2 : enc 4 (hK b) = seg b 12 4 := by
    have := enc_num (seg b 12 4)
    rw [seg_length b 12 4 (by omega)] at this
    exact this
  have e3 : enc 8 (hO b) = seg b 16 8 := by
    have := enc_num (seg b 16 8)
    rw [seg_length b 16 8 (by omega)] at this
    exact this
  have t : b.take 24 = mark ++ (seg b 8 4 ++ (seg b 12 4 ++ seg b 16 8)) := by
    rw [← h]
    have s1 : b.take 24 = b.take (8 + (4 + (4 + 8))) := rfl
    rw [s1, List.take_add, List.take_add, List.take_add]
    simp [seg, List.drop_drop]
  unfold hd
  rw [e1, e2, e3, t]
  simp only [List.append_assoc]
theorem hd_back (b : List UInt8) (hb : b.length = 32) (h : b.take 8 = mark) : hd (hP b) (hK b) (hO b) (hN b) = b := by
  have e4 : enc 8 (hN b) = seg b 24 8 := by
    have := enc_num (seg b 24 8)
    rw [seg_length b 24 8 (by omega)] at this
    exact this
  rw [hd_of b hb h, e4, show seg b 24 8 = b.drop 24 from List.take_of_length_le (by simp; omega)]
  exact List.take_append_drop _ _
theorem isH_mark {b : List UInt8} (h : isH b = true) : b.take 8 = mark := by
  unfold isH at h
  simp only [Bool.and_eq_true, decide_eq_true_eq] at h
  exact h.1
theorem isH_right {b : List UInt8} (h : isH b = true) : right (hP b : Nat) (hK b : Nat) = true := by
  unfold isH at h
  simp only [Bool.and_eq_true] at h
  exact h.2
/-- A header linked, laid as a whole or by its last bytes. -/
theorem wr_link (f : Nat → UInt8) (a m : Nat) (h : isH (rd f a 32) = true) : wr f a (hd (hP (rd f a 32)) (hK (rd f a 32)) (hO (rd f a 32)) m) = wr f (a + 24) (enc 8 m) := by
  rw [hd_of _ (rd_length _ _ _) (isH_mark h), rd_take _ _ _ _ (by omega), wr_append, wr_rd, rd_length]
/-- What is read behind a link. -/
theorem rd_link (f : Nat → UInt8) (a p k o n m : Nat) (h : rd f a 32 = hd p k o n) : rd (wr f (a + 24) (enc 8 m)) a 32 = hd p k o m := by
  have e : rd (wr f (a + 24) (enc 8 m)) a (24 + 8) = rd (wr f (a + 24) (enc 8 m)) a 24 ++ rd (wr f (a + 24) (enc 8 m)) (a + 24) 8 := rd_add _ _ _ _
  rw [show (32 : Nat) = 24 + 8 from rfl, e, rd_wr_apart _ _ _ _ _ (Or.inl (by omega))]
  have e2 : rd (wr f (a + 24) (enc 8 m)) (a + 24) 8 = enc 8 m := by
    have := rd_wr f (a + 24) (enc 8 m)
    rw [enc_length] at this
    exact this
  have e3 : rd f a 24 = (hd p k o n).take 24 := by rw [← h, rd_take _ _ _ _ (by omega)]
  rw [e2, e3]
  have h2 : (hd p k o n).take 24 = mark ++ (enc 4 p ++ (enc 4 k ++ enc 8 o)) := by
    have : hd p k o n = (mark ++ (enc 4 p ++ (enc 4 k ++ enc 8 o))) ++ enc 8 n := by unfold hd; simp only [List.append_assoc]
    rw [this, List.take_append_of_le_length (by simp [enc_length, mark]), List.take_of_length_le (by simp [enc_length, mark])]
  rw [h2]
  unfold hd
  simp only [List.append_assoc]
theorem rd_hd (f : Nat → UInt8) (a p k o n : Nat) : rd (wr f a (hd p k o n)) a 32 = hd p k o n := by
  have := rd_wr f a (hd p k o n)
  rw [hd_length] at this
  exact this
theorem rd_clear (f : Nat → UInt8) (a : Nat) : rd (zr f a 32) a 32 = List.replicate 32 0 := by
  have := rd_wr f a (List.replicate 32 0)
  rw [List.length_replicate] at this
  rw [zr_eq]
  exact this
theorem isH_other {b : List UInt8} (h : b.take 8 ≠ mark) : isH b = false := by
  unfold isH
  simp [h]
theorem isH_zero : isH (List.replicate 32 0) = false := isH_other (by decide)
theorem rd_zr_apart (f : Nat → UInt8) (a c b n : Nat) (h : b + n ≤ a ∨ a + c ≤ b) : rd (zr f a c) b n = rd f b n := by
  rw [zr_eq]
  exact rd_wr_apart _ _ _ _ _ (by rw [List.length_replicate]; exact h)
end Go.Proofs.Ytacognejefeboaa.M
