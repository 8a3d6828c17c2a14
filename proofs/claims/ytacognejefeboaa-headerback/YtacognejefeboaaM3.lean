/-
  Plain mathematics of a space of bytes: what is read and written, page by page; a log of what was stored. It speaks of no program.
-/
namespace Go.Proofs.Ytacognejefeboaa.M

/-- n bytes from a place on. -/
def rd (f : Nat → UInt8) (a n : Nat) : List UInt8 := (List.range n).map fun i => f (a + i)
/-- Bytes laid from a place on. -/
def wr (f : Nat → UInt8) (a : Nat) (l : List UInt8) : Nat → UInt8 := fun x => if h : a ≤ x ∧ x - a < l.length then l[x - a]'h.2 else f x
/-- n bytes made 0 from a place on. -/
def zr (f : Nat → UInt8) (a n : Nat) : Nat → UInt8 := fun x => if a ≤ x ∧ x - a < n then 0 else f x

theorem rd_length (f : Nat → UInt8) (a n : Nat) : (rd f a n).length = n := by simp [rd]
theorem rd_get (f : Nat → UInt8) (a n i : Nat) (h : i < (rd f a n).length) : (rd f a n)[i] = f (a + i) := by simp [rd]
theorem rd_zero (f : Nat → UInt8) (a : Nat) : rd f a 0 = [] := rfl
theorem rd_congr (f g : Nat → UInt8) (a n : Nat) (h : ∀ i, i < n → f (a + i) = g (a + i)) : rd f a n = rd g a n := by
  unfold rd
  apply List.map_congr_left
  intro i hi
  exact h i (by simpa using hi)
theorem rd_add (f : Nat → UInt8) (a m n : Nat) : rd f a (m + n) = rd f a m ++ rd f (a + m) n := by
  apply List.ext_getElem
  · simp [rd_length]
  · intro i h1 h2
    rw [rd_get]
    by_cases h : i < m
    · rw [List.getElem_append_left (by rw [rd_length]; exact h), rd_get]
    · rw [List.getElem_append_right (by rw [rd_length]; omega), rd_get, rd_length]
      congr 1
      omega
theorem rd_take (f : Nat → UInt8) (a n k : Nat) (h : k ≤ n) : (rd f a n).take k = rd f a k := by
  obtain ⟨m, rfl⟩ : ∃ m, n = k + m := ⟨n - k, by omega⟩
  rw [rd_add, List.take_append_of_le_length (by rw [rd_length]; exact Nat.le_refl _), List.take_of_length_le (by rw [rd_length]; exact Nat.le_refl _)]
theorem rd_drop (f : Nat → UInt8) (a n k : Nat) (h : k ≤ n) : (rd f a n).drop k = rd f (a + k) (n - k) := by
  obtain ⟨m, rfl⟩ : ∃ m, n = k + m := ⟨n - k, by omega⟩
  rw [rd_add, List.drop_append_of_le_length (by rw [rd_length]; exact Nat.le_refl _), List.drop_of_length_le (by rw [rd_length]; exact Nat.le_refl _), List.nil_append]
  congr 1
  omega

theorem wr_in (f : Nat → UInt8) (a : Nat) (l : List UInt8) (i : Nat) (h : i < l.length) : wr f a l (a + i) = l[i] := by
  unfold wr
  rw [dif_pos ⟨by omega, by omega⟩]
  congr 1
  omega
theorem wr_out (f : Nat → UInt8) (a : Nat) (l : List UInt8) (x : Nat) (h : x < a ∨ a + l.length ≤ x) : wr f a l x = f x := by
  unfold wr
  rw [dif_neg (by omega)]
theorem wr_nil (f : Nat → UInt8) (a : Nat) : wr f a [] = f := by
  funext x
  exact wr_out f a [] x (by simp; omega)
theorem rd_wr (f : Nat → UInt8) (a : Nat) (l : List UInt8) : rd (wr f a l) a l.length = l := by
  apply List.ext_getElem
  · rw [rd_length]
  · intro i h1 h2
    rw [rd_get, wr_in f a l i h2]
theorem rd_wr_apart (f : Nat → UInt8) (a : Nat) (l : List UInt8) (b n : Nat) (h : b + n ≤ a ∨ a + l.length ≤ b) : rd (wr f a l) b n = rd f b n :=
  rd_congr _ _ _ _ fun i hi => wr_out f a l (b + i) (by omega)
theorem wr_rd (f : Nat → UInt8) (a n : Nat) : wr f a (rd f a n) = f := by
  funext x
  by_cases h : a ≤ x ∧ x - a < n
  · obtain ⟨i, rfl⟩ : ∃ i, x = a + i := ⟨x - a, by omega⟩
    rw [wr_in f a _ i (by rw [rd_length]; omega), rd_get]
  · exact wr_out f a _ x (by rw [rd_length]; omega)
theorem wr_append (f : Nat → UInt8) (a : Nat) (l m : List UInt8) : wr f a (l ++ m) = wr (wr f a l) (a + l.length) m := by
  funext x
  by_cases h1 : a ≤ x ∧ x < a + l.length
  · obtain ⟨i, rfl⟩ : ∃ i, x = a + i := ⟨x - a, by omega⟩
    rw [wr_in f a _ i (by simp; omega), List.getElem_append_left (by omega), wr_out _ _ _ _ (by omega), wr_in f a l i (by omega)]
  · by_cases h2 : a + l.length ≤ x ∧ x < a + l.length + m.length
    · obtain ⟨i, rfl⟩ : ∃ i, x = a + l.length + i := ⟨x - (a + l.length), by omega⟩
      rw [wr_in (wr f a l) _ m i (by omega), Nat.add_assoc, wr_in f a _ (l.length + i) (by simp; omega), List.getElem_append_right (by omega)]
      congr 1
      omega
    · rw [wr_out _ _ _ _ (by simp; omega), wr_out _ _ _ _ (by omega), wr_out _ _ _ _ (by omega)]
theorem wr_comm (f : Nat → UInt8) (a : Nat) (l : List UInt8) (b : Nat) (m : List UInt8) (h : a + l.length ≤ b ∨ b + m.length ≤ a) : wr (wr f a l) b m = wr (wr f b m) a l := by
  funext x
  by_cases h1 : a ≤ x ∧ x < a + l.length
  · obtain ⟨i, rfl⟩ : ∃ i, x = a + i := ⟨x - a, by omega⟩
    rw [wr_out _ _ _ _ (by omega), wr_in f a l i (by omega), wr_in _ a l i (by omega)]
  · rw [wr_out (wr f b m) a l x (by omega)]
    by_cases h2 : b ≤ x ∧ x < b + m.length
    · obtain ⟨i, rfl⟩ : ∃ i, x = b + i := ⟨x - b, by omega⟩
      rw [wr_in _ b m i (by omega), wr_in f b m i (by omega)]
    · rw [wr_out _ _ _ _ (by omega), wr_out _ _ _ _ (by omega), wr_out _ _ _ _ (by omega)]
/-- A step of a loop that goes through bytes piece by piece. -/
theorem wr_step (f : Nat → UInt8) (a : Nat) (l : List UInt8) (d c : Nat) (h : d + c ≤ l.length) : wr (wr f a (l.take d)) (a + d) ((l.drop d).take c) = wr f a (l.take (d + c)) := by
  have e : l.take (d + c) = l.take d ++ (l.drop d).take c := by rw [List.take_add]
  rw [e, wr_append, List.length_take, Nat.min_eq_left (by omega)]
theorem zr_eq (f : Nat → UInt8) (a n : Nat) : zr f a n = wr f a (List.replicate n 0) := by
  funext x
  unfold zr
  by_cases h : a ≤ x ∧ x - a < n
  · rw [if_pos h]
    obtain ⟨i, rfl⟩ : ∃ i, x = a + i := ⟨x - a, by omega⟩
    rw [wr_in f a _ i (by simp; omega)]
    simp
  · rw [if_neg h, wr_out _ _ _ _ (by simp; omega)]
theorem zr_step (f : Nat → UInt8) (a d c : Nat) : zr (zr f a d) (a + d) c = zr f a (d + c) := by
  funext x
  unfold zr
  by_cases h1 : a + d ≤ x ∧ x - (a + d) < c
  · rw [if_pos h1, if_pos (by omega)]
  · rw [if_neg h1]
    by_cases h2 : a ≤ x ∧ x - a < d
    · rw [if_pos h2, if_pos (by omega)]
    · rw [if_neg h2, if_neg (by omega)]
theorem zr_zero (f : Nat → UInt8) (a : Nat) : zr f a 0 = f := by
  funext x
  unfold zr
  rw [if_neg (by omega)]

/-! Pages. -/
/-- The bytes that pages make: a page that isn't laid is 0. -/
def flat (pg : Nat → Option (List UInt8)) : Nat → UInt8 := fun x => ((pg (x / 4096)).bind (·[x % 4096]?)).getD 0
def setPg (pg : Nat → Option (List UInt8)) (k : Nat) (p : List UInt8) : Nat → Option (List UInt8) := fun j => if j = k then some p else pg j
/-- A piece of a list in the place of as many of its items. -/
def splice (p : List UInt8) (o : Nat) (l : List UInt8) : List UInt8 := p.take o ++ (l ++ p.drop (o + l.length))
theorem splice_length (p : List UInt8) (o : Nat) (l : List UInt8) (h : o + l.length ≤ p.length) : (splice p o l).length = p.length := by simp [splice]; omega
theorem splice_in (p : List UInt8) (o : Nat) (l : List UInt8) (i : Nat) (h : o + l.length ≤ p.length) (hi : i < l.length) : (splice p o l)[o + i]? = some l[i] := by
  have ht : (p.take o).length = o := by simp; omega
  unfold splice
  rw [List.getElem?_append_right (by omega), ht, Nat.add_sub_cancel_left, List.getElem?_append_left hi, List.getElem?_eq_getElem hi]
theorem splice_out (p : List UInt8) (o : Nat) (l : List UInt8) (x : Nat) (h : o + l.length ≤ p.length) (hx : x < o ∨ o + l.length ≤ x) : (splice p o l)[x]? = p[x]? := by
  have ht : (p.take o).length = o := by simp; omega
  unfold splice
  rcases hx with hx | hx
  · rw [List.getElem?_append_left (by omega), List.getElem?_take_of_lt hx]
  · rw [List.getElem?_append_right (by omega), List.getElem?_append_right (by omega), List.getElem?_drop]
    congr 1
    omega
theorem flat_none (pg : Nat → Option (List UInt8)) (k o : Nat) (ho : o < 4096) (h : pg k = none) : flat pg (k * 4096 + o) = 0 := by
  unfold flat
  rw [show (k * 4096 + o) / 4096 = k by omega, h]
  rfl
theorem flat_some (pg : Nat → Option (List UInt8)) (k o : Nat) (p : List UInt8) (ho : o < 4096) (h : pg k = some p) : flat pg (k * 4096 + o) = (p[o]?).getD 0 := by
  unfold flat
  rw [show (k * 4096 + o) / 4096 = k by omega, show (k * 4096 + o) % 4096 = o by omega, h]
  rfl
theorem rd_none (pg : Nat → Option (List UInt8)) (k o n : Nat) (hn : o + n ≤ 4096) (h : pg k = none) : rd (flat pg) (k * 4096 + o) n = List.replicate n 0 := by
  apply List.ext_getElem
  · simp [rd_length]
  · intro i h1 h2
    rw [rd_length] at h1
    rw [rd_get, Nat.add_assoc, flat_none pg k (o + i) (by omega) h]
    simp
theorem rd_some (pg : Nat → Option (List UInt8)) (k o n : Nat) (p : List UInt8) (hp : p.length = 4096) (hn : o + n ≤ 4096) (h : pg k = some p) : rd (flat pg) (k * 4096 + o) n = (p.drop o).take n := by
  apply List.ext_getElem
  · simp [rd_length]; omega
  · intro i h1 h2
    rw [rd_length] at h1
    rw [rd_get, Nat.add_assoc, flat_some pg k (o + i) p (by omega) h, List.getElem?_eq_getElem (by omega)]
    simp
/-- A piece of one page is written: that page alone is another one. -/
theorem flat_wr (pg : Nat → Option (List UInt8)) (k o : Nat) (p l : List UInt8) (hp : p.length = 4096) (hl : o + l.length ≤ 4096) (h : pg k = some p ∨ pg k = none ∧ p = List.replicate 4096 0) :
    flat (setPg pg k (splice p o l)) = wr (flat pg) (k * 4096 + o) l := by
  have hold : ∀ y, y < 4096 → (p[y]?).getD 0 = flat pg (k * 4096 + y) := by
    intro y hy
    rcases h with h | ⟨h, rfl⟩
    · rw [flat_some pg k y p hy h]
    · rw [flat_none pg k y hy h, List.getElem?_replicate_of_lt hy]
      rfl
  funext x
  by_cases hx : x / 4096 = k
  · obtain ⟨y, hy, rfl⟩ : ∃ y, y < 4096 ∧ x = k * 4096 + y := ⟨x % 4096, by omega, by omega⟩
    rw [flat_some (setPg pg k (splice p o l)) k y (splice p o l) hy (by simp [setPg])]
    by_cases hin : o ≤ y ∧ y < o + l.length
    · obtain ⟨i, rfl⟩ : ∃ i, y = o + i := ⟨y - o, by omega⟩
      rw [splice_in p o l i (by omega) (by omega), ← Nat.add_assoc, wr_in _ _ l i (by omega)]
      rfl
    · rw [splice_out p o l y (by omega) (by omega), wr_out _ _ _ _ (by omega), hold y hy]
  · rw [wr_out _ _ _ _ (by omega)]
    unfold flat setPg
    rw [if_neg hx]
theorem flat_zr_none (pg : Nat → Option (List UInt8)) (k o n : Nat) (hn : o + n ≤ 4096) (h : pg k = none) : zr (flat pg) (k * 4096 + o) n = flat pg := by
  funext x
  unfold zr
  split
  · next hx =>
    obtain ⟨i, rfl⟩ : ∃ i, x = k * 4096 + (o + i) := ⟨x - (k * 4096 + o), by omega⟩
    rw [flat_none pg k (o + i) (by omega) h]
  · rfl
theorem flat_empty : flat (fun _ => none) = fun _ => 0 := by
  funext x
  rfl
theorem setPg_same (pg : Nat → Option (List UInt8)) (k : Nat) (p : List UInt8) : setPg pg k p k = some p := by simp [setPg]
theorem setPg_other (pg : Nat → Option (List UInt8)) (k j : Nat) (p : List UInt8) (h : j ≠ k) : setPg pg k p j = pg j := by simp [setPg, h]

/-! What is touched. -/
def touched (a n : Nat) : Nat := if n = 0 then 1 else (a + n - 1) / 4096 - a / 4096 + 1
theorem touched_pos (a n : Nat) : 1 ≤ touched a n := by unfold touched; split <;> omega
theorem touched_one (a n : Nat) : touched a n = 1 ↔ a % 4096 + n ≤ 4096 := by
  unfold touched
  split <;> omega
theorem touched_le (a n : Nat) : touched a n ≤ n / 4096 + 2 := by unfold touched; split <;> omega

/-! A log of what was stored. -/
structure Ent where
  at' : Nat
  n : Nat
  data : List UInt8
  zero : Bool
def Ent.has (e : Ent) (x : Nat) : Bool := decide (e.at' ≤ x) && decide (x - e.at' < e.n)
def Ent.byte (e : Ent) (x : Nat) : UInt8 := if e.zero = true then 0 else (e.data[x - e.at']?).getD 0
/-- The byte at a place, of what was stored last ahead of a number of entries. -/
def byteUp (log : List Ent) : Nat → Nat → UInt8
  | 0, _ => 0
  | k + 1, x => match log[k]? with
    | some e => if e.has x = true then e.byte x else byteUp log k x
    | none => byteUp log k x
def byteAt (log : List Ent) (x : Nat) : UInt8 := byteUp log log.length x
theorem byteUp_append (log : List Ent) (e : Ent) (k x : Nat) (h : k ≤ log.length) : byteUp (log ++ [e]) k x = byteUp log k x := by
  induction k with
  | zero => rfl
  | succ k ih =>
    simp only [byteUp]
    rw [List.getElem?_append_left (by omega), ih (by omega)]
theorem byteAt_snoc (log : List Ent) (e : Ent) (x : Nat) : byteAt (log ++ [e]) x = if e.has x = true then e.byte x else byteAt log x := by
  unfold byteAt
  rw [List.length_append, List.length_singleton]
  simp only [byteUp]
  rw [List.getElem?_append_right (Nat.le_refl _), Nat.sub_self, byteUp_append log e _ x (Nat.le_refl _)]
  rfl
theorem byteAt_store (log : List Ent) (a : Nat) (l : List UInt8) : byteAt (log ++ [⟨a, l.length, l, false⟩]) = wr (byteAt log) a l := by
  funext x
  rw [byteAt_snoc]
  by_cases h : a ≤ x ∧ x - a < l.length
  · rw [if_pos (by simp [Ent.has, h])]
    obtain ⟨i, rfl⟩ : ∃ i, x = a + i := ⟨x - a, by omega⟩
    rw [wr_in _ a l i (by omega)]
    have hi : i < l.length := by omega
    simp [Ent.byte, hi]
  · rw [if_neg (by simp only [Ent.has, Bool.and_eq_true, decide_eq_true_eq]; exact h), wr_out _ _ _ _ (by omega)]
theorem byteAt_zero (log : List Ent) (a n : Nat) : byteAt (log ++ [⟨a, n, [], true⟩]) = zr (byteAt log) a n := by
  funext x
  rw [byteAt_snoc]
  unfold zr
  by_cases h : a ≤ x ∧ x - a < n
  · rw [if_pos (by simp [Ent.has, h]), if_pos h]
    simp [Ent.byte]
  · rw [if_neg (by simp only [Ent.has, Bool.and_eq_true, decide_eq_true_eq]; exact h), if_neg h]
theorem byteAt_nil : byteAt [] = fun _ => 0 := by
  funext x
  rfl

end Go.Proofs.Ytacognejefeboaa.M
