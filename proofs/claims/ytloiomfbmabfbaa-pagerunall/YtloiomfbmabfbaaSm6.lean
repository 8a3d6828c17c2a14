/-
  The small functions of an Alloc: New, Pages, Ticks, Free, Runs, Largest; and of nil.
-/
import Derived.Test.YtloiomfbmabfbaaAl6
import Derived.Test.YtloiomfbmabfbaaCl5
namespace Go.Proofs.Ytloiomfbmabfbaa
open Go.ChangeShapes Go.WideShapes Go.ChangeAt Go.RowKit Go.Deep
set_option linter.unusedVariables false
set_option maxRecDepth 20000

namespace M
/-- The longest run's pages. -/
def most : List R → Int
  | [] => 0
  | r :: l => max r.n (most l)
theorem most_snoc (l : List R) (r : R) : most (l ++ [r]) = max (most l) (max r.n 0) := by
  induction l with
  | nil => simp only [List.nil_append, most]; omega
  | cons s l ih => simp only [List.cons_append, most, ih]; omega
theorem most_nonneg (l : List R) : 0 ≤ most l := by
  induction l with
  | nil => exact Int.le_refl _
  | cons s l ih => simp only [most]; omega
theorem most_take (l : List R) (k : Nat) (h : k < l.length) : most (l.take (k + 1)) = max (most (l.take k)) l[k].n := by
  rw [List.take_succ_eq_append_getElem h, most_snoc]
  have := most_nonneg (l.take k)
  omega
theorem le_most {l : List R} {r : R} (h : r ∈ l) : r.n ≤ most l := by
  induction l with
  | nil => cases h
  | cons s l ih =>
    simp only [most]
    rcases List.mem_cons.1 h with rfl | h
    · omega
    · have := ih h; omega
theorem most_is {l : List R} (h : 0 < most l) : ∃ r ∈ l, r.n = most l := by
  induction l with
  | nil => simp [most] at h
  | cons s l ih =>
    simp only [most] at h ⊢
    by_cases hs : most l ≤ s.n
    · exact ⟨s, by simp, by omega⟩
    · obtain ⟨r, hr, e⟩ := ih (by omega)
      exact ⟨r, by simp [hr], by omega⟩
theorem len_total {a N : Int} {l : List R} (h : Ok a N l) : (l.length : Int) ≤ total l := by
  induction l generalizing a with
  | nil => exact Int.le_refl _
  | cons r l ih => rw [total_cons]; have := ih h.2.2.2.2; have := h.2.2.1; simp only [List.length_cons]; omega
theorem len_le {N : Int} {l : List R} (h : Ok (-1) N l) (hN : 0 ≤ N) : (l.length : Int) ≤ N + 1 := by
  have h1 := len_total h
  have h2 := total_le h (by omega)
  omega
end M

set_option maxHeartbeats 2000000 in
theorem al_new (w : World) (x : Int) (P : Int) (hP : P = min (max x 1) 1048576) :
    Calls Try.prog 9 #[.int .i64 x] w fun e w' => ∃ g, e = .returned (.pointer (some ⟨g, 0, none⟩)) ∧ Has w' g P [⟨0, P⟩] 0 ∧ Below w.heap.size w w' ∧ w.heap.size ≤ g := by
  have HN := Lib.hid (fun (W : World) A => Al.new W P A 1 1 0)
  have HB := Lib.hid (Below.refl w.heap.size w)
  have HR := Lib.hid (Box.new w 51 0 P)
  have HF := Lib.hid (show ∀ W : World, Below w.heap.size w W → Box W w.heap.size 0 P → Has W (w.heap.size + 1) P [⟨0, P⟩] 0 → ∃ g, Ending.returned (Value.pointer (some ⟨w.heap.size + 1, 0, none⟩)) = .returned (.pointer (some ⟨g, 0, none⟩)) ∧ Has W g P [⟨0, P⟩] 0 ∧ Below w.heap.size w W ∧ w.heap.size ≤ g from fun W hb _ h => ⟨_, rfl, h, hb, by omega⟩)
  have HW := Lib.hid (show ∃ g, Ending.returned (Value.pointer (some ⟨w.heap.size + 1, 0, none⟩)) = .returned (.pointer (some ⟨g, 0, none⟩)) ∧ Has ((w.alloc (.cells #[.int .i64 0, .int .i64 P] 51)).alloc (.cells #[.int .i64 P, .slice (some ⟨w.heap.size, 0, none⟩) 1 1, .int .i64 0] 57)) g P [⟨0, P⟩] 0 ∧ Below w.heap.size w ((w.alloc (.cells #[.int .i64 0, .int .i64 P] 51)).alloc (.cells #[.int .i64 P, .slice (some ⟨w.heap.size, 0, none⟩) 1 1, .int .i64 0] 57)) ∧ w.heap.size ≤ g from by
    have h1 := Al.new (w.alloc (.cells #[.int .i64 0, .int .i64 P] 51)) P (some ⟨w.heap.size, 0, none⟩) 1 1 0
    have h2 := (Box.new w 51 0 P).alloc (.cells #[.int .i64 P, .slice (some ⟨w.heap.size, 0, none⟩) 1 1, .int .i64 0] 57)
    rw [show (w.alloc (.cells #[.int .i64 0, .int .i64 P] 51)).heap.size = w.heap.size + 1 by simp] at h1
    refine ⟨w.heap.size + 1, rfl, ⟨_, _, _, h1, rfl, fun _ => ⟨w.heap.size, 0, rfl, fun i hi => ?_⟩⟩, ((Below.refl _ _).alloc (Nat.le_refl _) _).alloc (by simp) _, by omega⟩
    have : i = 0 := by simp at hi; omega
    subst this
    exact ⟨h2.c0, h2.c1⟩)
  clear HN HB HR HF
  go_enter Try.func9, Try.ntmps9
  by_cases h1 : x < 1
  · have e2 : P = 1 := by omega
    subst e2
    clear hP
    go_wp2_with fail
    go_ret
    exact HW.out
  · by_cases h2 : 1048576 < x
    · have e2 : P = 1048576 := by omega
      subst e2
      clear hP
      go_wp2_with fail
      go_ret
      exact HW.out
    · have e2 : P = x := by omega
      subst e2
      clear hP
      go_wp2_with fail
      all_goals go_ret
      all_goals exact HW.out

set_option maxHeartbeats 2000000 in
theorem al_pages (w : World) (g : Nat) (P : Int) (l : List M.R) (T : Int) (h : Has w g P l T) :
    Calls Try.prog 22 #[.pointer (some ⟨g, 0, none⟩)] w fun e w' => e = .returned (.int .i64 P) ∧ Below w.heap.size w w' := by
  obtain ⟨A, z, c, h, hz, hr⟩ := h
  have c0 := h.c0
  clear h hr hz
  go_enter Try.func22, Try.ntmps22
  go_wp2_with fail
  go_ret
  exact ⟨rfl, Below.refl _ _⟩

set_option maxHeartbeats 2000000 in
theorem al_ticks (w : World) (g : Nat) (P : Int) (l : List M.R) (T : Int) (h : Has w g P l T) :
    Calls Try.prog 21 #[.pointer (some ⟨g, 0, none⟩)] w fun e w' => e = .returned (.int .i64 T) ∧ Below w.heap.size w w' := by
  obtain ⟨A, z, c, h, hz, hr⟩ := h
  have c2 := h.c2
  clear h hr hz
  go_enter Try.func21, Try.ntmps21
  go_wp2_with fail
  go_ret
  exact ⟨rfl, Below.refl _ _⟩

set_option maxHeartbeats 2000000 in
theorem al_free (w : World) (g : Nat) (P : Int) (l : List M.R) (T : Int) (h : Has w g P l T) (hok : M.Ok (-1) P l) (h0 : 0 ≤ P) (hP : P ≤ 1048576) :
    Calls Try.prog 17 #[.pointer (some ⟨g, 0, none⟩)] w fun e w' => e = .returned (.int .i64 (M.total l)) ∧ Below w.heap.size w w' := by
  obtain ⟨A, z, c, h, hz, hr⟩ := h
  have hl := M.len_le hok h0
  have HC := Lib.hid (total_any w A l z c hz hr (by omega) (hok.wide (by omega)))
  have c1 := h.c1
  clear h hr hz hok hl h0 hP
  go_enter Try.func17, Try.ntmps17
  go_wp2_with fail
  refine HC.out.mono ?_
  rintro e w1 ⟨rfl, hb⟩
  go_wp2_with fail
  go_ret
  exact ⟨rfl, hb⟩

/-- Runs that were answered. -/
def GotR (w : World) (l : List M.R) (e : Ending) (w' : World) : Prop := ∃ A' t c', e = .returned (.slice A' t c') ∧ t = l.length ∧ Runs w' A' l ∧ Below w.heap.size w w'

set_option maxHeartbeats 2000000 in
theorem al_runs (w : World) (g : Nat) (P : Int) (l : List M.R) (T : Int) (h : Has w g P l T) (hok : M.Ok (-1) P l) (h0 : 0 ≤ P) (hP : P ≤ 1048576) :
    Calls Try.prog 16 #[.pointer (some ⟨g, 0, none⟩)] w (GotR w l) := by
  obtain ⟨A, z, c, h, hz, hr⟩ := h
  have hl := M.len_le hok h0
  have HC := Lib.hid (clone_any w A l z c hz hr (by omega))
  have HZ := Lib.hid hz
  have c1 := h.c1
  clear h hr hz hok hl h0 hP
  go_enter Try.func16, Try.ntmps16
  go_wp2_with fail
  refine HC.out.mono ?_
  rintro e w1 ⟨A', c', rfl, hm, hb⟩
  go_wp2_with fail
  go_ret
  exact ⟨A', z, c', rfl, HZ.out, hm.runs, hb⟩

theorem clo_end (w : World) (b : Nat) (m n : Int) (hc : w.cell? ⟨b, 0, none⟩ = some (.int .i64 m)) (hf : w.frozen? ⟨b, 0, none⟩ = false) (o : Obj) :
    ((w.setCell ⟨b, 0, none⟩ (.int .i64 n)).alloc o).cell? ⟨b, 0, none⟩ = some (.int .i64 n) ∧ ((w.setCell ⟨b, 0, none⟩ (.int .i64 n)).alloc o).frozen? ⟨b, 0, none⟩ = false ∧ w.grownBy ((w.setCell ⟨b, 0, none⟩ (.int .i64 n)).alloc o) (some b) := by
  have h1 : (w.setCell ⟨b, 0, none⟩ (.int .i64 n)).cell? ⟨b, 0, none⟩ = some (.int .i64 n) := World.cell?_setCell_same _ _ _ hc
  have h2 := lt_of_cell h1
  refine ⟨(World.cell?_alloc_lt _ _ ⟨b, 0, none⟩ h2).trans h1, (World.frozen?_of_block (a := ⟨b, 0, none⟩) (Below.heap_alloc _ _ b h2)).trans ?_, grown_go (only_setCell (grown_of (Below.refl _ _) b) rfl _) (grown_of ((Below.refl _ _).alloc (Nat.le_refl _) _) b)⟩
  rw [World.frozen?_setCell]
  exact hf
set_option maxHeartbeats 2000000 in
theorem clo_any (w : World) (b : Nat) (p n m : Int) (hc : w.cell? ⟨b, 0, none⟩ = some (.int .i64 m)) (hf : w.frozen? ⟨b, 0, none⟩ = false) :
    Calls Try.prog 32 #[.agg #[.int .i64 p, .int .i64 n], .pointer (some ⟨b, 0, none⟩)] w fun e w' => e = .returned (.tuple #[]) ∧ w'.cell? ⟨b, 0, none⟩ = some (.int .i64 (max m n)) ∧ w'.frozen? ⟨b, 0, none⟩ = false ∧ w.grownBy w' (some b) := by
  have HE := Lib.hid (clo_end w b m (max m n) hc hf (.cells #[.int .i64 p, .int .i64 n] 51))
  have hlt := lt_of_cell hc
  have d0 : (w.alloc (.cells #[.int .i64 p, .int .i64 n] 51)).cell? ⟨b, 0, none⟩ = some (.int .i64 m) := (World.cell?_alloc_lt w _ ⟨b, 0, none⟩ hlt).trans hc
  have d1 := (Box.new w 51 p n).c1
  have d2 : (w.alloc (.cells #[.int .i64 p, .int .i64 n] 51)).frozen? ⟨b, 0, none⟩ = false := (World.frozen?_of_block (w := w) (a := ⟨b, 0, none⟩) (Below.heap_alloc w _ b hlt)).trans hf
  by_cases hmn : m < n
  · have e : max m n = n := by omega
    rw [e] at HE ⊢
    clear e
    go_enter Try.func32, Try.ntmps32
    go_wp2_with fail
    go_end0
    exact ⟨rfl, HE.out⟩
  · have e : max m n = m := by omega
    rw [e] at HE ⊢
    clear e
    go_enter Try.func32, Try.ntmps32
    go_wp2_with fail
    go_end0
    exact ⟨rfl, HE.out⟩

set_option maxHeartbeats 4000000 in
theorem each_any (w0 w : World) (b : Nat) (hbb : b = w0.heap.size) (g : Nat) (P : Int) (l : List M.R) (T : Int) (h : Has w0 g P l T) (hok : M.Ok (-1) P l) (h0 : 0 ≤ P) (hP : P ≤ 1048576) (hb : Below b w0 w) (hc : w.cell? ⟨b, 0, none⟩ = some (.int .i64 0)) (hf : w.frozen? ⟨b, 0, none⟩ = false) :
    Calls Try.prog 31 #[.pointer (some ⟨g, 0, none⟩), .func (.func 32) #[] #[.pointer (some ⟨b, 0, none⟩)]] w fun e w' => e = .returned (.tuple #[]) ∧ w'.cell? ⟨b, 0, none⟩ = some (.int .i64 (M.most l)) ∧ Below b w0 w' := by
  obtain ⟨A, z, c, h, hz, hr⟩ := h
  have hl := M.len_le hok h0
  have c1 := (h.below (w' := w) (hbb ▸ hb)).c1
  have HZ := Lib.hid hz
  have HR := Lib.hid hr
  have hzz : z ≤ 4000000000 := by omega
  have HI := Lib.hid (And.intro hb (And.intro hc hf))
  have HBB := Lib.hid hbb
  clear hbb h hr hz hok hl h0 hP hb hc hf
  go_enter Try.func31, Try.ntmps31
  go_wp2_with fail
  go_loopw [13] (fun i wr => ∃ (k : Nat), k ≤ z ∧ i = .int .i64 (k : Int) ∧ wr.cell? ⟨b, 0, none⟩ = some (.int .i64 (M.most (l.take k))) ∧ wr.frozen? ⟨b, 0, none⟩ = false ∧ Below b w0 wr) (fun i _ => z - (intOf i).toNat)
  case atStart => exact ⟨0, by omega, rfl, by rw [List.take_zero]; exact HI.out.2.1, HI.out.2.2, HI.out.1⟩
  case round =>
    obtain ⟨k, hk, rfl, hm, hf, hb⟩ := hrel
    by_cases hlt : k < z
    · have hkl : k < l.length := by have := HZ.out; omega
      obtain ⟨bl, o, rfl, hc⟩ := HR.out (by omega)
      have c0 := (hc k hkl).1
      have c2 := (hc k hkl).2
      have HM := Lib.hid (M.most_take l k hkl)
      obtain ⟨p, hp⟩ : ∃ p, p = l[k].p := ⟨_, rfl⟩
      obtain ⟨n, hn⟩ : ∃ n, n = l[k].n := ⟨_, rfl⟩
      rw [← hn] at HM
      rw [← hp] at c0
      rw [← hn] at c2
      obtain ⟨m, hmm⟩ : ∃ m, m = M.most (l.take k) := ⟨_, rfl⟩
      rw [← hmm] at HM hm
      have hb' := hb
      rw [HBB.out] at hb'
      have d0 := (hb'.cell (lt_of_cell c0)).trans c0
      have d1 := (hb'.cell (lt_of_cell c2)).trans c2
      have hlb : b < wr.heap.size := lt_of_cell hm
      have HB := Lib.hid hb
      have HF := Lib.hid (And.intro hm hf)
      have BX := Box.new wr 51 p n
      have x0 := BX.c0
      have x1 := BX.c1
      have hlW : b ≤ (wr.alloc (.cells #[.int .i64 p, .int .i64 n] 51)).heap.size := by simp; omega
      have HW := Lib.hid (And.intro (hb.alloc (Nat.le_of_lt hlb) (.cells #[.int .i64 p, .int .i64 n] 51)) hlW)
      have HC := Lib.hid (clo_any (wr.alloc (.cells #[.int .i64 p, .int .i64 n] 51)) b p n m ((World.cell?_alloc_lt wr _ ⟨b, 0, none⟩ hlb).trans hm) ((World.frozen?_of_block (w := wr) (a := ⟨b, 0, none⟩) (Below.heap_alloc wr _ b hlb)).trans hf))
      clear hb hb' hm hf hc c0 c2 hk hp hn hmm BX hlW
      go_wp2_with fail
      refine HC.out.mono ?_
      rintro e w1 ⟨rfl, hm1, hf1, hg1⟩
      have HE := Lib.hid (And.intro hm1 (And.intro hf1 (HW.out.1.grown hg1 HW.out.2 (fun k hk => by cases hk; exact Nat.le_refl _))))
      clear hm1 hf1 hg1
      go_wp2_with fail
      go_roundw
      case rel => exact ⟨k + 1, by omega, by go_num, by rw [HM.out]; exact HE.out.1, HE.out.2⟩
      case measure => simp [intOf]; omega
    · have hkz : k = z := by omega
      have ht : l.take k = l := by rw [hkz, HZ.out]; exact List.take_length
      rw [ht] at hm
      have HE := Lib.hid (And.intro hm hb)
      clear hm hb hf ht
      go_wp2_with fail
      go_end0
      exact ⟨rfl, HE.out⟩

set_option maxHeartbeats 2000000 in
theorem al_largest (w : World) (g : Nat) (P : Int) (l : List M.R) (T : Int) (h : Has w g P l T) (hok : M.Ok (-1) P l) (h0 : 0 ≤ P) (hP : P ≤ 1048576) :
    Calls Try.prog 19 #[.pointer (some ⟨g, 0, none⟩)] w fun e w' => e = .returned (.int .i64 (M.most l)) ∧ Below w.heap.size w w' := by
  go_enter Try.func19, Try.ntmps19
  go_wp2_with fail
  refine (each_any w _ _ rfl g P l T h hok h0 hP ((Below.refl _ _).alloc (Nat.le_refl _) _) (by rw [World.cell?_alloc_mark]; rfl) (by rw [World.frozen?_alloc_mark]; simp)).mono ?_
  rintro e w1 ⟨rfl, hc, hb⟩
  have HB := Lib.hid hb
  clear hb h hok h0 hP
  go_wp2_with fail
  go_ret
  exact ⟨rfl, HB.out⟩

section
variable (w : World)
set_option maxHeartbeats 1000000
theorem nil_pages : Calls Try.prog 22 #[.pointer none] w fun e w' => e = .returned (.int .i64 0) ∧ Below w.heap.size w w' := by
  go_enter Try.func22, Try.ntmps22
  go_wp2_with fail
  go_ret
  exact ⟨rfl, Below.refl _ _⟩
theorem nil_free : Calls Try.prog 17 #[.pointer none] w fun e w' => e = .returned (.int .i64 0) ∧ Below w.heap.size w w' := by
  go_enter Try.func17, Try.ntmps17
  go_wp2_with fail
  go_ret
  exact ⟨rfl, Below.refl _ _⟩
theorem nil_ticks : Calls Try.prog 21 #[.pointer none] w fun e w' => e = .returned (.int .i64 0) ∧ Below w.heap.size w w' := by
  go_enter Try.func21, Try.ntmps21
  go_wp2_with fail
  go_ret
  exact ⟨rfl, Below.refl _ _⟩
theorem nil_runs : Calls Try.prog 16 #[.pointer none] w fun e w' => e = .returned (.slice none 0 0) ∧ Below w.heap.size w w' := by
  go_enter Try.func16, Try.ntmps16
  go_wp2_with fail
  go_ret
  exact ⟨rfl, Below.refl _ _⟩
theorem nil_each (f : Value) : Calls Try.prog 31 #[.pointer none, f] w fun e w' => e = .returned (.tuple #[]) ∧ w' = w := by
  go_enter Try.func31, Try.ntmps31
  go_wp2_with fail
  refine bodyPost_ret (v := .tuple #[]) ?_ rfl ?_ <;> simp [results, go_sem]
theorem nil_largest : Calls Try.prog 19 #[.pointer none] w fun e w' => e = .returned (.int .i64 0) ∧ Below w.heap.size w w' := by
  have hc : (w.alloc (.cells #[.int .i64 0] 3)).cell? ⟨w.heap.size, 0, none⟩ = some (.int .i64 0) := by rw [World.cell?_alloc_mark]; rfl
  go_enter Try.func19, Try.ntmps19
  go_wp2_with fail
  refine (nil_each _ _).mono ?_
  rintro e w1 ⟨rfl, rfl⟩
  go_wp2_with fail
  go_ret
  exact ⟨rfl, (Below.refl _ _).alloc (Nat.le_refl _) _⟩
theorem nil_take (n : Int) : Calls Try.prog 14 #[.pointer none, .int .i64 n] w fun e w' => e = .returned (.tuple #[.int .i64 0, .int .i64 1]) ∧ Below w.heap.size w w' := by
  go_enter Try.func14, Try.ntmps14
  go_wp2_with fail
  go_ret2
  exact ⟨rfl, Below.refl _ _⟩
theorem nil_give (p n : Int) : Calls Try.prog 12 #[.pointer none, .int .i64 p, .int .i64 n] w fun e w' => e = .returned (.int .i64 1) ∧ Below w.heap.size w w' := by
  go_enter Try.func12, Try.ntmps12
  go_wp2_with fail
  go_ret
  exact ⟨rfl, Below.refl _ _⟩
end
end Go.Proofs.Ytloiomfbmabfbaa
