/-
  Steps of an Alloc: what pages are free behind them.
-/
import Derived.Test.YtloiomfbmabfbaaTk6
import Derived.Test.YtloiomfbmabfbaaLaw5
namespace Go.Proofs.Ytloiomfbmabfbaa
open Go.ChangeShapes Go.WideShapes Go.ChangeAt Go.RowKit Go.Deep
set_option linter.unusedVariables false
set_option maxRecDepth 20000

theorem take_step {P : Int} {l : List M.R} {n : Int} (hok : M.Ok (-1) P l) (h : takeB l n = true) :
    M.Ok (-1) P (takeL l n) ∧ M.total (takeL l n) = M.total l - n ∧ (∀ x, M.Pg (takeL l n) x ↔ M.Pg l x ∧ ¬ (takeP l n ≤ x ∧ x < takeP l n + n)) ∧
    (∀ x, takeP l n ≤ x → x < takeP l n + n → M.Pg l x) ∧ 1 ≤ n ∧ 0 ≤ takeP l n ∧ takeP l n + n ≤ P := by
  obtain ⟨k, hk, _, h1, h2, eP, eL⟩ := taken h
  have hm := hok.mem _ (M.getD_mem l k hk)
  have hl := M.left_ok hok k hk n h1 h2
  rw [← eL, ← eP] at hl
  rw [← eP] at hm
  refine ⟨hl.1, hl.2.1, fun x => ⟨fun hx => ⟨(hl.2.2.1 x).2 (.inl hx), hl.2.2.2 x hx⟩, fun ⟨hx, hn⟩ => ((hl.2.2.1 x).1 hx).resolve_right hn⟩, fun x ha hb => (hl.2.2.1 x).2 (.inr ⟨ha, hb⟩), h1, by omega, by omega⟩
theorem give_step {P : Int} {l : List M.R} {p n : Int} (hok : M.Ok (-1) P l) (h : giveB l P p n = true) :
    M.Ok (-1) P (giveL l P p n) ∧ M.total (giveL l P p n) = M.total l + n ∧ (∀ x, M.Pg (giveL l P p n) x ↔ M.Pg l x ∨ (p ≤ x ∧ x < p + n)) ∧
    (∀ x, p ≤ x → x < p + n → ¬ M.Pg l x) ∧ 1 ≤ n ∧ 0 ≤ p ∧ p + n ≤ P := by
  have h' := h
  unfold giveB at h
  simp only [Bool.and_eq_true, Bool.not_eq_true'] at h
  obtain ⟨hf, hh⟩ := h
  obtain ⟨h1, h2, h3⟩ := (fitsB_iff _ _ _).1 hf
  have := M.give_ok hok h1 h2 h3 hh
  rw [giveL, if_pos h']
  exact ⟨this.1, this.2.1, this.2.2, (M.has_not hok _ _ h2).1 hh, h2, h1, h3⟩
/-- How an Alloc stands behind some calls. -/
structure Fit (P : Int) (l : List M.R) (T : Int) (k : Nat) : Prop where
  ok : M.Ok (-1) P l
  len : l.length ≤ k + 1
  t0 : 0 ≤ T
  t1 : T ≤ k * 2000000
theorem Fit.new (P : Int) (h : 1 ≤ P) : Fit P [⟨0, P⟩] 0 0 := ⟨⟨by simp, by simp, h, by simp, trivial⟩, by simp, by omega, by omega⟩
theorem len_big {P : Int} {l : List M.R} (hok : M.Ok (-1) P l) (h0 : 0 ≤ P) (hP : P ≤ 1048576) : (l.length : Int) ≤ 1048577 := by
  have := M.len_le hok h0
  omega
theorem Fit.take {P : Int} {l : List M.R} {T : Int} {k : Nat} (h : Fit P l T k) (h0 : 0 ≤ P) (hP : P ≤ 1048576) (n : Int) : Fit P (tkL l n) (tkT l n T) (k + 1) := by
  have hb := len_big h.ok h0 hP
  have h1 := h.len
  have h2 := h.t0
  have h3 := h.t1
  unfold tkL tkT
  by_cases hc : takeB l n = true
  · rw [if_pos hc, if_pos hc]
    have := takeL_length (l := l) (n := n)
    exact ⟨(take_step h.ok hc).1, by omega, by omega, by omega⟩
  · rw [if_neg hc, if_neg hc]
    exact ⟨h.ok, by omega, by omega, by omega⟩
theorem Fit.give {P : Int} {l : List M.R} {T : Int} {k : Nat} (h : Fit P l T k) (h0 : 0 ≤ P) (hP : P ≤ 1048576) (p n : Int) : Fit P (gvL l P p n) (gvT l P p n T) (k + 1) := by
  have hb := len_big h.ok h0 hP
  have h1 := h.len
  have h2 := h.t0
  have h3 := h.t1
  unfold gvL gvT
  by_cases hc : giveB l P p n = true
  · rw [if_pos hc, if_pos hc]
    have := giveL_length (l := l) (N := P) (p := p) (n := n)
    exact ⟨(give_step h.ok hc).1, by omega, by omega, by omega⟩
  · rw [if_neg hc, if_neg hc]
    exact ⟨h.ok, by omega, by omega, by omega⟩
theorem Fit.one {P : Int} {l : List M.R} {T : Int} {k : Nat} (h : Fit P l T k) : Fit P l T (k + 1) := ⟨h.ok, by have := h.len; omega, h.t0, by have := h.t1; omega⟩
/-- There is room just if the longest run has so many pages. -/
theorem takeB_most {l : List M.R} {n : Int} (hn : 1 ≤ n) : takeB l n = decide (n ≤ M.most l) := by
  rcases Bool.eq_false_or_eq_true (takeB l n) with h | h
  · obtain ⟨k, hk, _, h1, h2, eP, eL⟩ := taken h
    have := M.le_most (M.getD_mem l k hk)
    rw [h]
    simp; omega
  · have := (take_none h).2.2
    rw [h]
    rcases this with h1 | h1
    · omega
    · have : ¬ n ≤ M.most l := fun hle => by
        obtain ⟨r, hr, e⟩ := M.most_is (l := l) (by omega)
        have := h1 r hr
        omega
      simp [this]
/-- What was taken can be given back at once. -/
theorem back_step {P : Int} {l : List M.R} {n : Int} (hok : M.Ok (-1) P l) (h : takeB l n = true) : giveB (takeL l n) P (takeP l n) n = true ∧ giveL (takeL l n) P (takeP l n) n = l := by
  have ht := take_step hok h
  have hgb : giveB (takeL l n) P (takeP l n) n = true := by
    rw [giveB_of ht.2.2.2.2.2.1 ht.2.2.2.2.1 ht.2.2.2.2.2.2, (M.has_not ht.1 _ _ ht.2.2.2.2.1).2 (fun x h1 h2 h3 => ((ht.2.2.1 x).1 h3).2 ⟨h1, h2⟩)]
    rfl
  have hg := give_step ht.1 hgb
  refine ⟨hgb, M.uniq _ _ _ _ _ _ hg.1 hok (fun x => ?_)⟩
  rw [hg.2.2.1 x, ht.2.2.1 x]
  constructor
  · rintro (h1 | h1)
    · exact h1.1
    · exact ht.2.2.2.1 x h1.1 h1.2
  · intro h1
    by_cases h2 : takeP l n ≤ x ∧ x < takeP l n + n
    · exact .inr h2
    · exact .inl ⟨h1, h2⟩
/-- Without holes pages are taken one behind the other. -/
theorem one_step {p q n : Int} (h1 : 1 ≤ n) (h2 : n < q) : takeP [⟨p, q⟩] n = p ∧ tkE [⟨p, q⟩] n = 0 ∧ tkL [⟨p, q⟩] n = [⟨p + n, q - n⟩] := by
  have hb : takeB [⟨p, q⟩] n = true := by
    rw [takeB_most h1]
    have : q ≤ M.most [⟨p, q⟩] := M.le_most (l := [⟨p, q⟩]) (r := ⟨p, q⟩) (by simp)
    simp
    omega
  obtain ⟨k, hk, _, _, _, eP, eL⟩ := taken hb
  have : k = 0 := by simp at hk; omega
  subst this
  refine ⟨by rw [eP]; rfl, by rw [tkE, if_neg (by omega), if_pos hb], ?_⟩
  rw [tkL, if_pos hb, eL]
  unfold M.left
  have hne : ¬ (q = n) := by omega
  simp [hne]

/-- An Alloc that a call made, beside what it was handed. -/
structure Std (w0 w : World) (g : Nat) (P : Int) (l : List M.R) (T : Int) (k : Nat) : Prop where
  has : Has w g P l T
  fit : Fit P l T k
  bel : Below w0.heap.size w0 w
  old : w0.heap.size ≤ g
  p1 : 1 ≤ P
  p2 : P ≤ 1048576
section
variable {w0 w w' : World} {g : Nat} {P : Int} {l l' : List M.R} {T T' : Int} {k k' : Nat}
theorem Std.below (h : Std w0 w g P l T k) (hb : Below w.heap.size w w') : Std w0 w' g P l T k := ⟨h.has.below hb, h.fit, below_call h.bel hb, h.old, h.p1, h.p2⟩
theorem Std.grown (h : Std w0 w g P l T k) (hh : Has w' g P l' T') (hg : w.grownBy w' (some g)) (hf : Fit P l' T' k') : Std w0 w' g P l' T' k' :=
  ⟨hh, hf, h.bel.grown hg h.bel.size (fun j hj => by cases hj; exact h.old), h.old, h.p1, h.p2⟩
theorem Std.drew (h : Std w0 w g P l T k) : Std w0 w.drew g P l T k := h.below (Below.refl _ _).drew
theorem Std.alloc (h : Std w0 w g P l T k) (o : Obj) : Std w0 (w.alloc o) g P l T k := h.below ((Below.refl _ _).alloc (Nat.le_refl _) _)
theorem Std.one (h : Std w0 w g P l T k) : Std w0 w g P l T (k + 1) := ⟨h.has, h.fit.one, h.bel, h.old, h.p1, h.p2⟩
/-- Runs that are beside the Alloc. -/
theorem Std.runs (h : Std w0 w g P l T k) {A' : Option Addr} (hr : Runs w A' l') (hb : w.grownBy w' (some g)) : Runs w' A' l' := h.has.runs hr hb
theorem s_new (h : Below w0.heap.size w0 w) (x : Int) (P : Int) (hP : P = min (max x 1) 1048576) :
    Calls Try.prog 9 #[.int .i64 x] w fun e w' => ∃ g, e = .returned (.pointer (some ⟨g, 0, none⟩)) ∧ Std w0 w' g P [⟨0, P⟩] 0 0 ∧ Below w.heap.size w w' ∧ w.heap.size ≤ g := by
  refine (al_new w x P hP).mono ?_
  rintro e w' ⟨g, rfl, hh, hb, hg⟩
  exact ⟨g, rfl, ⟨hh, Fit.new P (by omega), below_call h hb, Nat.le_trans h.size hg, by omega, by omega⟩, hb, hg⟩
theorem s_take (h : Std w0 w g P l T k) (hk : k ≤ 1000) (n : Int) :
    Calls Try.prog 14 #[.pointer (some ⟨g, 0, none⟩), .int .i64 n] w fun e w' => e = .returned (.tuple #[.int .i64 (takeP l n), .int .i64 (tkE l n)]) ∧ Std w0 w' g P (tkL l n) (tkT l n T) (k + 1) ∧ w.grownBy w' (some g) := by
  have h1 := h.p1
  have h2 := h.p2
  have h3 := h.fit.t1
  refine (al_take w g P l T h.has h.fit.ok (by omega) (by omega) h.fit.t0 (by omega) n).mono ?_
  rintro e w' ⟨rfl, hh, hg⟩
  exact ⟨rfl, h.grown hh hg (h.fit.take (by omega) h2 n), hg⟩
theorem s_give (h : Std w0 w g P l T k) (hk : k ≤ 1000) (p n : Int) (hp : -9223372036854775808 ≤ p) :
    Calls Try.prog 12 #[.pointer (some ⟨g, 0, none⟩), .int .i64 p, .int .i64 n] w fun e w' => e = .returned (.int .i64 (gvE l P p n)) ∧ Std w0 w' g P (gvL l P p n) (gvT l P p n T) (k + 1) ∧ w.grownBy w' (some g) := by
  have h1 := h.p1
  have h2 := h.p2
  have h3 := h.fit.t1
  refine (al_give w g P l T h.has h.fit.ok (by omega) (by omega) h.fit.t0 (by omega) p n hp).mono ?_
  rintro e w' ⟨rfl, hh, hg⟩
  exact ⟨rfl, h.grown hh hg (h.fit.give (by omega) h2 p n), hg⟩
theorem s_pages (h : Std w0 w g P l T k) : Calls Try.prog 22 #[.pointer (some ⟨g, 0, none⟩)] w fun e w' => e = .returned (.int .i64 P) ∧ Below w.heap.size w w' := al_pages w g P l T h.has
theorem s_ticks (h : Std w0 w g P l T k) : Calls Try.prog 21 #[.pointer (some ⟨g, 0, none⟩)] w fun e w' => e = .returned (.int .i64 T) ∧ Below w.heap.size w w' := al_ticks w g P l T h.has
theorem s_free (h : Std w0 w g P l T k) : Calls Try.prog 17 #[.pointer (some ⟨g, 0, none⟩)] w fun e w' => e = .returned (.int .i64 (M.total l)) ∧ Below w.heap.size w w' := al_free w g P l T h.has h.fit.ok (by have := h.p1; omega) h.p2
theorem s_largest (h : Std w0 w g P l T k) : Calls Try.prog 19 #[.pointer (some ⟨g, 0, none⟩)] w fun e w' => e = .returned (.int .i64 (M.most l)) ∧ Below w.heap.size w w' := al_largest w g P l T h.has h.fit.ok (by have := h.p1; omega) h.p2
theorem s_runs (h : Std w0 w g P l T k) : Calls Try.prog 16 #[.pointer (some ⟨g, 0, none⟩)] w (GotR w l) := al_runs w g P l T h.has h.fit.ok (by have := h.p1; omega) h.p2
end
end Go.Proofs.Ytloiomfbmabfbaa
