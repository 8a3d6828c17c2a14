/-
  A Cache in memory: its cells; New, of.
-/
import Derived.Test.YteiiiapjloincaaM9
import Derived.Test.YteiiiapjloincaaC7
import Derived.Test.YteiiiapjloincaaCl5
namespace Go.Proofs.Yteiiiapjloincaa
open Go.ChangeShapes Go.WideShapes Go.ChangeAt Go.RowKit Go.Deep
set_option linter.unusedVariables false
set_option maxRecDepth 20000

/-- What stands at a place of a Cache. -/
def caval (f : M.Ky) (j : Nat) : Int := if j % 2 = 0 then (f (j / 8 : Nat)).getD (j % 8 / 2) 0 else if j % 8 / 2 < (f (j / 8 : Nat)).length then M.pg (j / 8 : Nat) else 0
def cacl (f : M.Ky) : List Value := (List.range 56).map fun j => .int .i64 (caval f j)
theorem cacl_length (f : M.Ky) : (cacl f).length = 56 := by simp [cacl]
theorem cacl_at (f : M.Ky) (j : Nat) (h : j < 56) : (cacl f)[j]? = some (.int .i64 (caval f j)) := by simp [cacl, List.getElem?_map, List.getElem?_range h]
theorem caval0 (f : M.Ky) (k n : Nat) (hn : n < 4) : caval f (k * 8 + n * 2) = (f k).getD n 0 := by
  unfold caval
  rw [if_pos (by omega), show (k * 8 + n * 2) / 8 = k by omega, show (k * 8 + n * 2) % 8 / 2 = n by omega]
theorem caval1 (f : M.Ky) (k n : Nat) (hn : n < 4) : caval f (k * 8 + n * 2 + 1) = if n < (f k).length then M.pg k else 0 := by
  unfold caval
  rw [if_neg (by omega), show (k * 8 + n * 2 + 1) / 8 = k by omega, show (k * 8 + n * 2 + 1) % 8 / 2 = n by omega]
/-- The cells of a Cache. -/
structure IsC (w : World) (g : Nat) (f : M.Ky) : Prop where
  good : M.Good f
  blk : w.heap[g]? = some (.cells (cacl f).toArray 31 (0, 0))
section
variable {w w' : World} {g : Nat} {f : M.Ky}
theorem IsC.cell (h : IsC w g f) (j : Nat) (hj : j < 56) : w.cell? ⟨g, j, none⟩ = some (.int .i64 (caval f j)) := by rw [cell_of_row w g j _ _ _ h.blk]; simpa using cacl_at f j hj
theorem IsC.c0 (h : IsC w g f) (k n : Nat) (hk : k < 7) (hn : n < 4) : w.cell? ⟨g, k * 8 + n * 2, none⟩ = some (.int .i64 ((f k).getD n 0)) := by rw [h.cell _ (by omega), caval0 f k n hn]
theorem IsC.c1 (h : IsC w g f) (k n : Nat) (hk : k < 7) (hn : n < 4) : w.cell? ⟨g, k * 8 + n * 2 + 1, none⟩ = some (.int .i64 (if n < (f k).length then M.pg k else 0)) := by rw [h.cell _ (by omega), caval1 f k n hn]
theorem IsC.fr (h : IsC w g f) (j : Nat) : w.frozen? ⟨g, j, none⟩ = false := by
  unfold World.frozen?
  rw [show w.heap[(⟨g, j, none⟩ : Addr).block]? = _ from h.blk]
  simp
theorem IsC.lt (h : IsC w g f) : g < w.heap.size := (Array.getElem?_eq_some_iff.1 h.blk).1
theorem IsC.keep (h : IsC w g f) (hb : w'.heap[g]? = w.heap[g]?) : IsC w' g f := ⟨h.good, hb.trans h.blk⟩
theorem IsC.below (h : IsC w g f) (hb : Below w.heap.size w w') : IsC w' g f := h.keep (hb.block g h.lt)
theorem IsC.alloc (h : IsC w g f) (o : Obj) : IsC (w.alloc o) g f := h.keep (Below.heap_alloc w o g h.lt)
theorem IsC.drew (h : IsC w g f) : IsC w.drew g f := ⟨h.good, h.blk⟩
theorem IsC.drewN (h : IsC w g f) (n : Nat) : IsC (w.drewN n) g f := ⟨h.good, h.blk⟩
theorem IsC.grown (h : IsC w g f) {r : Nat} (hr : g ≠ r) (hb : w.grownBy w' (some r)) : IsC w' g f := h.keep (hb.block g h.lt (fun e => hr (by injection e)))
/-- What is kept of a class, as it lies there. -/
theorem IsC.runs (h : IsC w g f) (k : Nat) (hk : k < 7) : Runs w (some ⟨g, k * 8, none⟩) (M.rows f k) := fun _ => ⟨g, k * 8, rfl, fun i hi => by
  have hi' : i < (f k).length := by rw [M.rows_length] at hi; exact hi
  have h4 := h.good.four k
  have a := h.c0 k i hk (by omega)
  have b := h.c1 k i hk (by omega)
  rw [if_pos hi'] at b
  rw [List.getD, List.getElem?_eq_getElem hi'] at a
  refine ⟨by rw [a]; simp [M.rows], by rw [b]; simp [M.rows]⟩⟩
end

theorem arr_len : Try.prog.arrayLen 28 = 4 := by kernel_rfl
theorem arr_elem : Try.prog.elem 28 = 27 := by kernel_rfl
theorem arr_und : Try.prog.underlying 28 = some (.array (Try.prog.arrayLen 28) (Try.prog.elem 28)) := by rw [arr_len, arr_elem]; exact Try.underlying28
theorem arr_h (w : World) (a : Addr) (j : Nat) (h : j ≤ 4) : (Instr.sliceAt 28 (.pointer (some a)) none (some (.int .i64 (j : Int))) none).run Try.prog w = .ok (.slice (some a) j 4) w := by
  have := run_sliceAt_array_h w 28 a arr_und .i64 (j : Int) (by omega) (by rw [arr_len]; omega)
  rw [this, arr_elem]
  have hs : (sizeOf 27).run Try.prog w = .ok 2 w := by kernel_rfl
  rw [hs]
  simp [slicedAt, arr_len, add_zero']
set_option maxHeartbeats 1000000 in
theorem caof_in (w : World) (g : Nat) (f : M.Ky) (h : IsC w g f) (k : Nat) (hk : k < 7) :
    Calls Try.prog 24 #[.pointer (some ⟨g, 0, none⟩), .int .i64 (k : Int)] w fun e w' => e = .returned (.slice (some ⟨g, k * 8, none⟩) (f k).length 4) ∧ w = w' := by
  have HI := Lib.hid h
  have hp := M.pg_pos k hk
  obtain ⟨p, hpp⟩ : ∃ p, M.pg (k : Int) = p := ⟨_, rfl⟩
  rw [hpp] at hp
  have hp0 : ((p : Int) == 0) = false := by simp; omega
  have HP := Lib.hid hpp
  have h4 := h.good.four k
  obtain ⟨z, hz⟩ : ∃ z, (f k).length = z := ⟨_, rfl⟩
  rw [hz] at h4
  rw [hz]
  have HZ := Lib.hid hz
  clear h hpp hz
  go_enter Try.func24, Try.ntmps24
  go_wp2_with fail
  refine (cpages_at (k : Int) p rfl HP.out _).mono ?_
  rintro e w' ⟨rfl, rfl⟩
  go_wp2_with fail
  go_loop [5, 13] (fun _ i => ∃ j : Nat, j ≤ z ∧ i = .int .i64 j) (fun _ i => 4 - (intOf i).toNat)
  case atStart => exact ⟨0, by omega, rfl⟩
  case round =>
    obtain ⟨j, hj, rfl⟩ := hrel
    by_cases hlt : j < 4
    · have c1 := HI.out.c1 k j hk hlt
      rw [HZ.out, HP.out] at c1
      by_cases hjz : j < z
      · rw [if_pos hjz] at c1
        go_wp2_with fail
        go_round
        case rel => exact ⟨j + 1, by omega, by go_num⟩
        case measure => simp [intOf]; omega
      · rw [if_neg hjz] at c1
        have e : j = z := by omega
        subst e
        have sl := arr_h w ⟨g, k * 8, none⟩ j (by omega)
        go_wp2_with fail
        go_ret
        exact ⟨rfl, rfl⟩
    · have e : z = 4 := by omega
      subst e
      go_wp2_with fail
      go_ret
      exact ⟨rfl, rfl⟩
theorem caof_out (w : World) (P : Option Addr) (c : Int) (h : P = none ∨ c < 0 ∨ 7 ≤ c) :
    Calls Try.prog 24 #[.pointer P, .int .i64 c] w fun e w' => e = .returned (.slice none 0 0) ∧ w = w' := by
  cases P with
  | none =>
    clear h
    go_enter Try.func24, Try.ntmps24
    go_wp2_with fail
    go_ret
    exact ⟨rfl, rfl⟩
  | some a =>
    have hp := Lib.hid (M.pg_out c (by simpa using h))
    clear h
    go_enter Try.func24, Try.ntmps24
    go_wp2_with fail
    refine (cpages_at c 0 rfl hp.out _).mono ?_
    rintro e w' ⟨rfl, rfl⟩
    go_wp2_with fail
    go_ret
    exact ⟨rfl, rfl⟩
/-- What is kept of a class, at an address. -/
def ofA (g : Nat) (f : M.Ky) (c : Int) : Option Addr := if 0 ≤ c ∧ c < 7 then some ⟨g, c.toNat * 8, none⟩ else none
def ofC (c : Int) : Nat := if 0 ≤ c ∧ c < 7 then 4 else 0
theorem caof_any (w : World) (g : Nat) (f : M.Ky) (h : IsC w g f) (c : Int) :
    Calls Try.prog 24 #[.pointer (some ⟨g, 0, none⟩), .int .i64 c] w fun e w' => e = .returned (.slice (ofA g f c) (f c).length (ofC c)) ∧ w = w' := by
  unfold ofA ofC
  by_cases hc : 0 ≤ c ∧ c < 7
  · rw [if_pos hc, if_pos hc]
    obtain ⟨k, rfl⟩ : ∃ k : Nat, c = k := ⟨c.toNat, by omega⟩
    exact caof_in w g f h k (by omega)
  · rw [if_neg hc, if_neg hc, h.good.out c (by omega)]
    exact caof_out w _ c (by omega)
theorem calen_any (w : World) (g : Nat) (f : M.Ky) (h : IsC w g f) (c : Int) :
    Calls Try.prog 15 #[.pointer (some ⟨g, 0, none⟩), .int .i64 c] w fun e w' => e = .returned (.int .i64 ((f c).length : Int)) ∧ w = w' := by
  have H := Lib.hid h
  clear h
  go_enter Try.func15, Try.ntmps15
  go_wp2_with fail
  refine (caof_any _ g f H.out c).mono ?_
  rintro e w' ⟨rfl, rfl⟩
  go_wp2_with fail
  go_ret
  exact ⟨rfl, rfl⟩
theorem calen_nil (w : World) (c : Int) :
    Calls Try.prog 15 #[.pointer none, .int .i64 c] w fun e w' => e = .returned (.int .i64 0) ∧ w = w' := by
  go_enter Try.func15, Try.ntmps15
  go_wp2_with fail
  refine (caof_out _ none c (.inl rfl)).mono ?_
  rintro e w' ⟨rfl, rfl⟩
  go_wp2_with fail
  go_ret
  exact ⟨rfl, rfl⟩

theorem cacl_empty : cacl M.empty = List.replicate 56 (.int .i64 0) := by
  apply List.ext_getElem?
  intro j
  by_cases h : j < 56
  · rw [cacl_at _ j h, List.getElem?_replicate, if_pos h]
    unfold caval
    simp [M.empty]
  · rw [List.getElem?_eq_none (by rw [cacl_length]; omega), List.getElem?_eq_none (by simp; omega)]
theorem IsC.new (w : World) : IsC (w.alloc (.cells (List.replicate 56 (Value.int .i64 0)).toArray 31)) w.heap.size M.empty := by
  refine ⟨M.Good.empty, ?_⟩
  rw [cacl_empty]
  unfold World.alloc
  simp
/-- All cells are laid anew. -/
theorem IsC.clear {w : World} {g : Nat} {f : M.Ky} (h : IsC w g f) : IsC (w.setRow g (List.replicate 56 (Value.int .i64 0)).toArray) g M.empty := by
  refine ⟨M.Good.empty, ?_⟩
  rw [cacl_empty]
  exact setRow_heap w g _ _ _ _ h.blk
/-- A place is laid anew. -/
theorem IsC.set {w : World} {g : Nat} {f : M.Ky} (h : IsC w g f) (k n : Nat) (hk : k < 7) (hn : n < 4) (v q : Int) (f' : M.Ky) (hg : M.Good f') (hd : ∀ d : Int, d ≠ k → f' d = f d)
    (h0 : ∀ m, m < 4 → (f' k).getD m 0 = if m = n then v else (f k).getD m 0)
    (h1 : ∀ m, m < 4 → (if m < (f' k).length then M.pg k else 0) = if m = n then q else if m < (f k).length then M.pg k else 0) :
    IsC ((w.setCell ⟨g, k * 8 + n * 2, none⟩ (.int .i64 v)).setCell ⟨g, k * 8 + n * 2 + 1, none⟩ (.int .i64 q)) g f' := by
  refine ⟨hg, ?_⟩
  have e1 := setCell_eq_setRow w g (k * 8 + n * 2) _ _ _ (.int .i64 v) h.blk
  rw [e1]
  have b1 := setRow_heap w g _ ((cacl f).toArray.setIfInBounds (k * 8 + n * 2) (.int .i64 v)) _ _ h.blk
  have e2 := setCell_eq_setRow _ g (k * 8 + n * 2 + 1) _ _ _ (.int .i64 q) b1
  rw [e2]
  rw [setRow_heap _ g _ _ _ _ b1]
  congr 2
  apply Array.ext'
  simp only [List.setIfInBounds_toArray, List.toList_toArray]
  apply List.ext_getElem?
  intro j
  by_cases hj : j < 56
  · rw [cacl_at f' j hj, List.getElem?_set, List.getElem?_set]
    simp only [List.length_set, cacl_length]
    have hv : caval f' j = if k * 8 + n * 2 + 1 = j then q else if k * 8 + n * 2 = j then v else caval f j := by
      obtain ⟨k', m, b, hm, rfl, hb⟩ : ∃ k' m b, m < 4 ∧ j = k' * 8 + m * 2 + b ∧ (b = 0 ∨ b = 1) := ⟨j / 8, j % 8 / 2, j % 2, by omega, by omega, by omega⟩
      by_cases ek : k' = k
      · subst ek
        rcases hb with rfl | rfl
        · rw [Nat.add_zero, caval0 f' _ _ hm, caval0 f _ _ hm, h0 m hm]
          by_cases em : m = n
          · rw [if_pos em, if_neg (by omega), if_pos (by omega)]
          · rw [if_neg em, if_neg (by omega), if_neg (by omega)]
        · rw [caval1 f' _ _ hm, caval1 f _ _ hm, h1 m hm]
          by_cases em : m = n
          · rw [if_pos em, if_pos (by omega)]
          · rw [if_neg em, if_neg (show ¬ k' * 8 + n * 2 + 1 = k' * 8 + m * 2 + 1 by omega), if_neg (show ¬ k' * 8 + n * 2 = k' * 8 + m * 2 + 1 by omega)]
      · have ef := hd (k' : Int) (by omega)
        rw [if_neg (by omega), if_neg (by omega)]
        rcases hb with rfl | rfl
        · rw [Nat.add_zero, caval0 f' _ _ hm, caval0 f _ _ hm, ef]
        · rw [caval1 f' _ _ hm, caval1 f _ _ hm, ef]
    rw [hv]
    by_cases e1 : k * 8 + n * 2 + 1 = j
    · rw [if_pos e1, if_pos e1, if_pos (by omega)]
    · rw [if_neg e1, if_neg e1]
      by_cases e2 : k * 8 + n * 2 = j
      · rw [if_pos e2, if_pos e2, if_pos (by omega)]
      · rw [if_neg e2, if_neg e2, cacl_at f j hj]
  · rw [List.getElem?_eq_none (by simp [cacl_length]; omega), List.getElem?_eq_none (by simp [cacl_length]; omega)]
theorem IsC.push {w : World} {g : Nat} {f : M.Ky} (h : IsC w g f) (k n : Nat) (hk : k < 7) (hn : n < 4) (en : (f k).length = n) (v : Int) (hv : 0 ≤ v) :
    IsC ((w.setCell ⟨g, k * 8 + n * 2, none⟩ (.int .i64 v)).setCell ⟨g, k * 8 + n * 2 + 1, none⟩ (.int .i64 (M.pg k))) g (M.pushF f k v) := by
  have hb : M.pushB f k v = true := (M.pushB_iff _ _ _).2 ⟨by omega, by omega, hv, by omega⟩
  refine h.set k n hk hn v _ _ (h.good.push _ _) (fun d hd => ?_) (fun m hm => ?_) (fun m hm => ?_)
  · rw [M.pushF_yes _ _ _ hb, M.upd_ne _ _ _ _ hd]
  · rw [M.pushF_yes _ _ _ hb, M.upd_self]
    subst en
    simp only [List.getD]
    by_cases e : m = (f k).length
    · subst e; simp
    · rw [if_neg e]
      rcases Nat.lt_or_ge m (f k).length with hl | hl
      · rw [List.getElem?_append_left hl]
      · rw [List.getElem?_eq_none (by simp; omega), List.getElem?_eq_none (by omega)]
  · rw [M.pushF_yes _ _ _ hb, M.upd_self]
    subst en
    simp only [List.length_append, List.length_cons, List.length_nil]
    by_cases e : m = (f k).length
    · rw [if_pos (by omega), if_pos e]
    · rw [if_neg e]
      by_cases hl : m < (f k).length
      · rw [if_pos (by omega), if_pos hl]
      · rw [if_neg (by omega), if_neg hl]
theorem IsC.pop {w : World} {g : Nat} {f : M.Ky} (h : IsC w g f) (k n : Nat) (hk : k < 7) (en : (f k).length = n + 1) :
    IsC ((w.setCell ⟨g, k * 8 + n * 2, none⟩ (.int .i64 0)).setCell ⟨g, k * 8 + n * 2 + 1, none⟩ (.int .i64 0)) g (M.popF f k) := by
  have h4 := h.good.four k
  refine h.set k n hk (by omega) 0 0 _ (h.good.pop _) (fun d hd => ?_) (fun m hm => ?_) (fun m hm => ?_)
  · unfold M.popF; rw [M.upd_ne _ _ _ _ hd]
  · unfold M.popF; rw [M.upd_self]
    simp only [List.getD]
    rw [List.getElem?_dropLast]
    by_cases e : m = n
    · subst e; rw [if_neg (by omega)]; simp
    · rw [if_neg e]
      by_cases hl : m < (f k).length - 1
      · rw [if_pos hl]
      · rw [if_neg hl, List.getElem?_eq_none (by omega)]
  · unfold M.popF; rw [M.upd_self]
    rw [List.length_dropLast]
    by_cases e : m = n
    · rw [if_neg (by omega), if_pos e]
    · rw [if_neg e]
      by_cases hl : m < (f k).length
      · rw [if_pos (by omega), if_pos hl]
      · rw [if_neg (by omega), if_neg hl]
set_option maxHeartbeats 1000000 in
theorem canew_any (w : World) : Calls Try.prog 9 #[] w fun e w' => ∃ g, e = .returned (.pointer (some ⟨g, 0, none⟩)) ∧ IsC w' g M.empty ∧ Below w.heap.size w w' ∧ w.heap.size ≤ g := by
  have H := Lib.hid (IsC.new w)
  go_enter Try.func9, Try.ntmps9
  go_wp2_with fail
  go_ret
  exact ⟨w.heap.size, rfl, H.out, (Below.refl _ _).alloc (Nat.le_refl _) _, Nat.le_refl _⟩
end Go.Proofs.Yteiiiapjloincaa
