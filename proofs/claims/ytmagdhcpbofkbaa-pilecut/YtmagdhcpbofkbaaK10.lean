/-
  Plain mathematics of chunks: pages that are free, kept and got; what is trimmed, found and put.
-/
import Derived.Test.YtmagdhcpbofkbaaK4
import Derived.Test.YtmagdhcpbofkbaaK9
import Derived.Test.YtmagdhcpbofkbaaK8
namespace Go.Proofs.Ytmagdhcpbofkbaa
set_option linter.unusedVariables false
namespace M

/-- Whether a run has a page, and how many of some runs have it. -/
def one (r : R) (x : Int) : Int := if r.p ≤ x ∧ x < r.p + r.n then 1 else 0
def cov (x : Int) : List R → Int
  | [] => 0
  | r :: l => one r x + cov x l
theorem cov_append (x : Int) (A B : List R) : cov x (A ++ B) = cov x A + cov x B := by
  induction A with
  | nil => simp [cov]
  | cons r l ih => simp only [List.cons_append, cov, ih]; omega
theorem cov_perm (x : Int) {A B : List R} (h : A.Perm B) : cov x A = cov x B := by
  induction h with
  | nil => rfl
  | cons r _ ih => simp only [cov, ih]
  | swap r s l => simp only [cov]; omega
  | trans _ _ h1 h2 => exact h1.trans h2
theorem total_perm {A B : List R} (h : A.Perm B) : total A = total B := by
  induction h with
  | nil => rfl
  | cons r _ ih => rw [total_cons, total_cons, ih]
  | swap r s l => simp only [total_cons]; omega
  | trans _ _ h1 h2 => exact h1.trans h2
theorem one_nonneg (r : R) (x : Int) : 0 ≤ one r x := by unfold one; split <;> omega
theorem one_le (r : R) (x : Int) : one r x ≤ 1 := by unfold one; split <;> omega
theorem one_in {r : R} {x : Int} (h1 : r.p ≤ x) (h2 : x < r.p + r.n) : one r x = 1 := if_pos ⟨h1, h2⟩
theorem one_out {r : R} {x : Int} (h : ¬ (r.p ≤ x ∧ x < r.p + r.n)) : one r x = 0 := if_neg h
theorem cov_nonneg (x : Int) (L : List R) : 0 ≤ cov x L := by
  induction L with
  | nil => exact Int.le_refl _
  | cons r l ih => have := one_nonneg r x; simp only [cov]; omega
theorem cov_mem {L : List R} {r : R} (h : r ∈ L) {x : Int} : one r x ≤ cov x L := by
  induction L with
  | nil => cases h
  | cons s l ih =>
    simp only [cov]
    rcases List.mem_cons.1 h with rfl | h
    · have := cov_nonneg x l; omega
    · have := ih h; have := one_nonneg s x; omega
theorem cov_pg (x : Int) (L : List R) : Pg L x ↔ 1 ≤ cov x L := by
  constructor
  · rintro ⟨r, hr, h1, h2⟩
    have := cov_mem hr (x := x)
    rw [one_in h1 h2] at this
    exact this
  · intro h
    induction L with
    | nil => simp [cov] at h
    | cons r l ih =>
      rw [Pg_cons]
      by_cases hr : r.p ≤ x ∧ x < r.p + r.n
      · exact .inl hr
      · simp only [cov, one_out hr] at h
        exact .inr (ih (by omega))
theorem cov_le {N : Int} {L : List R} : ∀ {a : Int}, Ok a N L → ∀ x, cov x L ≤ 1 := by
  induction L with
  | nil => intro a _ x; simp [cov]
  | cons r l ih =>
    intro a h x
    simp only [cov]
    by_cases hr : r.p ≤ x ∧ x < r.p + r.n
    · have : ¬ Pg l x := fun e => by have := h.2.2.2.2.pg e; omega
      rw [cov_pg] at this
      have := one_le r x
      omega
    · rw [one_out hr]
      have := ih h.2.2.2.2 x
      omega
theorem cov_is {a N : Int} {L : List R} (h : Ok a N L) (x : Int) : (Pg L x ∧ cov x L = 1) ∨ (¬ Pg L x ∧ cov x L = 0) := by
  have h1 := cov_le h x
  have h2 := cov_nonneg x L
  by_cases hp : Pg L x
  · have := (cov_pg x L).1 hp
    exact .inl ⟨hp, by omega⟩
  · have : ¬ 1 ≤ cov x L := fun e => hp ((cov_pg x L).2 e)
    exact .inr ⟨hp, by omega⟩
end M

theorem take_cov {P : Int} {l : List M.R} {n : Int} (hok : M.Ok (-1) P l) (h : takeB l n = true) (x : Int) : M.cov x l = M.one ⟨takeP l n, n⟩ x + M.cov x (takeL l n) := by
  obtain ⟨h1, _, h3, h4, _⟩ := take_step hok h
  have e := h3 x
  have g := h4 x
  by_cases hx : takeP l n ≤ x ∧ x < takeP l n + n
  · rw [M.one_in (r := ⟨takeP l n, n⟩) hx.1 hx.2]
    rcases M.cov_is hok x with ⟨a, b⟩ | ⟨a, b⟩ <;> rcases M.cov_is h1 x with ⟨c, d⟩ | ⟨c, d⟩
    · exact absurd hx (e.1 c).2
    · omega
    · exact absurd hx (e.1 c).2
    · exact absurd (g hx.1 hx.2) a
  · rw [M.one_out (r := ⟨takeP l n, n⟩) hx]
    rcases M.cov_is hok x with ⟨a, b⟩ | ⟨a, b⟩ <;> rcases M.cov_is h1 x with ⟨c, d⟩ | ⟨c, d⟩
    · omega
    · exact absurd (e.2 ⟨a, hx⟩) c
    · exact absurd (e.1 c).1 a
    · omega
theorem give_cov {P : Int} {l : List M.R} {p n : Int} (hok : M.Ok (-1) P l) (h : giveB l P p n = true) (x : Int) : M.cov x (giveL l P p n) = M.one ⟨p, n⟩ x + M.cov x l := by
  obtain ⟨h1, _, h3, h4, _⟩ := give_step hok h
  have e := h3 x
  have g := h4 x
  by_cases hx : p ≤ x ∧ x < p + n
  · rw [M.one_in (r := ⟨p, n⟩) hx.1 hx.2]
    rcases M.cov_is hok x with ⟨a, b⟩ | ⟨a, b⟩ <;> rcases M.cov_is h1 x with ⟨c, d⟩ | ⟨c, d⟩
    · exact absurd a (g hx.1 hx.2)
    · exact absurd a (g hx.1 hx.2)
    · omega
    · exact absurd (e.2 (.inr hx)) c
  · rw [M.one_out (r := ⟨p, n⟩) hx]
    rcases M.cov_is hok x with ⟨a, b⟩ | ⟨a, b⟩ <;> rcases M.cov_is h1 x with ⟨c, d⟩ | ⟨c, d⟩
    · omega
    · exact absurd (e.2 (.inl a)) c
    · exact absurd ((e.1 c).resolve_right hx) a
    · omega

/-- Free runs, and others: each page is in one of them. -/
structure Pt (P : Int) (l G : List M.R) : Prop where
  ok : M.Ok (-1) P l
  pos : ∀ r ∈ G, 1 ≤ r.n
  cov : ∀ x, M.cov x G + M.cov x l = if 0 ≤ x ∧ x < P then 1 else 0
  tot : M.total G + M.total l = P
section
variable {P : Int} {l G G' : List M.R} {r s : M.R} {n : Int}
theorem Pt.new (P : Int) (h : 1 ≤ P) : Pt P [⟨0, P⟩] [] :=
  ⟨⟨by simp, by simp, h, by simp, trivial⟩, fun r hr => (by cases hr), fun x => (by simp [M.cov, M.one]), (by simp [M.total])⟩
theorem Pt.perm (h : Pt P l G) (e : G.Perm G') : Pt P l G' :=
  ⟨h.ok, fun r hr => h.pos r (e.mem_iff.2 hr), fun x => by rw [← M.cov_perm x e]; exact h.cov x, by rw [← M.total_perm e]; exact h.tot⟩
theorem Pt.le (h : Pt P l G) (x : Int) : M.cov x G + M.cov x l ≤ 1 := by rw [h.cov x]; split <;> omega
theorem Pt.inn (h : Pt P l G) (hr : r ∈ G) : 0 ≤ r.p ∧ 1 ≤ r.n ∧ r.p + r.n ≤ P := by
  have hn := h.pos r hr
  have h1 := h.cov r.p
  have h2 := h.cov (r.p + r.n - 1)
  have g1 := M.cov_mem hr (x := r.p)
  have g2 := M.cov_mem hr (x := r.p + r.n - 1)
  rw [M.one_in (by omega) (by omega)] at g1 g2
  have k1 := M.cov_nonneg r.p l
  have k2 := M.cov_nonneg (r.p + r.n - 1) l
  split at h1 <;> split at h2 <;> omega
theorem Pt.free (h : Pt P l G) (hr : r ∈ G) : giveB l P r.p r.n = true := by
  have hi := h.inn hr
  rw [giveB_of hi.1 hi.2.1 hi.2.2, (M.hasR_not h.ok _ _ hi.2.1).2 (fun x h1 h2 h3 => ?_)]
  · rfl
  · have g := M.cov_mem hr (x := x)
    rw [M.one_in h1 h2] at g
    have := (M.cov_pg x l).1 h3
    have := h.le x
    omega
theorem Pt.take (h : Pt P l G) (hb : takeB l n = true) : Pt P (takeL l n) (⟨takeP l n, n⟩ :: G) := by
  have ht := take_step h.ok hb
  refine ⟨ht.1, fun r hr => ?_, fun x => ?_, ?_⟩
  · rcases List.mem_cons.1 hr with rfl | hr
    · exact ht.2.2.2.2.1
    · exact h.pos r hr
  · have := h.cov x
    have := take_cov h.ok hb x
    simp only [M.cov]
    omega
  · have := h.tot
    have := ht.2.1
    rw [M.total_cons]
    simp only
    omega
theorem Pt.give (h : Pt P l (r :: G)) : giveB l P r.p r.n = true ∧ Pt P (giveL l P r.p r.n) G := by
  have hb := h.free (List.mem_cons_self ..)
  have hg := give_step h.ok hb
  refine ⟨hb, hg.1, fun s hs => h.pos s (List.mem_cons_of_mem _ hs), fun x => ?_, ?_⟩
  · have := h.cov x
    have := give_cov h.ok hb x
    have e : M.cov x (r :: G) = M.one r x + M.cov x G := rfl
    have e2 : M.one ⟨r.p, r.n⟩ x = M.one r x := rfl
    omega
  · have := h.tot
    have := hg.2.1
    rw [M.total_cons] at *
    omega
theorem Pt.off (h : Pt P l (r :: G)) (hs : s ∈ G) : r.p ≠ s.p := fun e => by
  have h1 := h.le r.p
  have hr := h.pos r (List.mem_cons_self ..)
  have hs' := h.pos s (List.mem_cons_of_mem _ hs)
  have g := M.cov_mem hs (x := r.p)
  rw [M.one_in (by omega) (by omega)] at g
  have := M.cov_nonneg r.p l
  simp only [M.cov] at h1
  rw [M.one_in (r := r) (by omega) (by omega)] at h1
  omega
theorem Pt.done (h : Pt P l []) (hP : 1 ≤ P) : l = [⟨0, P⟩] := by
  refine M.uniq P P _ _ (-1) (-1) h.ok ⟨by simp, by simp, hP, by simp, trivial⟩ (fun x => ?_)
  rw [M.cov_pg, M.cov_pg]
  have h1 := h.cov x
  simp only [M.cov, M.one] at h1 ⊢
  rw [show (0 : Int) + P = P by omega]
  split at h1 <;> simp_all <;> omega
end

/-! What is given back of a list. -/
def giveAll (P : Int) : List M.R → List M.R → Int → List M.R × Int
  | [], l, T => (l, T)
  | r :: A, l, T => giveAll P A (gvL l P r.p r.n) (gvT l P r.p r.n T)
theorem giveAll_append (P : Int) (A B : List M.R) : ∀ (l : List M.R) (T : Int), giveAll P (A ++ B) l T = giveAll P B (giveAll P A l T).1 (giveAll P A l T).2 := by
  induction A with
  | nil => intro l T; rfl
  | cons r A ih => intro l T; exact ih _ _
theorem giveAll_pt {P : Int} {G : List M.R} : ∀ (A l : List M.R) (T : Int), Pt P l (A ++ G) → Pt P (giveAll P A l T).1 G := by
  intro A
  induction A with
  | nil => intro l T h; exact h
  | cons r A ih =>
    intro l T h
    have h' := Pt.give (G := A ++ G) h
    show Pt P (giveAll P A (gvL l P r.p r.n) (gvT l P r.p r.n T)).1 G
    refine ih _ _ ?_
    rw [gvL, if_pos h'.1]
    exact h'.2
theorem giveAll_fit {P : Int} (h0 : 0 ≤ P) (hP : P ≤ 1048576) : ∀ (A l : List M.R) (T : Int) (k : Nat), Fit P l T k → Fit P (giveAll P A l T).1 (giveAll P A l T).2 (k + A.length) := by
  intro A
  induction A with
  | nil => intro l T k h; exact h
  | cons r A ih =>
    intro l T k h
    have := ih _ _ _ (h.give h0 hP r.p r.n)
    rw [List.length_cons, show k + (A.length + 1) = k + 1 + A.length by omega]
    exact this
theorem gvL_length {P : Int} {l : List M.R} {p n : Int} : (gvL l P p n).length ≤ l.length + 1 := by
  unfold gvL
  split
  · exact giveL_length
  · omega
theorem tkL_length {l : List M.R} {n : Int} : (tkL l n).length ≤ l.length := by
  unfold tkL
  split
  · exact takeL_length
  · omega
theorem giveAll_length {P : Int} : ∀ (A l : List M.R) (T : Int), (giveAll P A l T).1.length ≤ l.length + A.length := by
  intro A
  induction A with
  | nil => intro l T; exact Nat.le_refl _
  | cons r A ih =>
    intro l T
    have := ih (gvL l P r.p r.n) (gvT l P r.p r.n T)
    have := gvL_length (P := P) (l := l) (p := r.p) (n := r.n)
    rw [List.length_cons]
    show (giveAll P A (gvL l P r.p r.n) (gvT l P r.p r.n T)).1.length ≤ _
    omega
theorem Fit.mono {P : Int} {l : List M.R} {T : Int} {k k' : Nat} (h : Fit P l T k) (hk : k ≤ k') : Fit P l T k' := ⟨h.ok, by have := h.len; omega, h.t0, by have := h.t1; omega⟩

/-! What is kept. -/
namespace M
theorem allTo_upd_ge (f : Ky) (c : Int) (L : List Int) : ∀ k : Nat, (k : Int) ≤ c → allTo (upd f c L) k = allTo f k
  | 0, _ => rfl
  | k + 1, h => by
    simp only [allTo, rows]
    rw [allTo_upd_ge f c L k (by omega), upd_ne _ _ _ _ (by omega)]
theorem allTo_push (f : Ky) (c p : Int) : ∀ k : Nat, c < (k : Int) → 0 ≤ c → (allTo (upd f c (f c ++ [p])) k).Perm (⟨p, pg c⟩ :: allTo f k)
  | 0, h, h0 => by omega
  | k + 1, h, h0 => by
    by_cases e : (k : Int) = c
    · simp only [allTo, rows]
      rw [allTo_upd_ge f c _ k (by omega), e, upd_self, List.map_append, ← List.append_assoc]
      exact List.perm_append_singleton _ _
    · have ih := allTo_push f c p k (by omega) h0
      simp only [allTo, rows]
      rw [upd_ne _ _ _ _ (by omega)]
      exact ih.append_right _
theorem all_push (f : Ky) (c p : Int) (h : pushB f c p = true) : (all (pushF f c p)).Perm (⟨p, pg c⟩ :: all f) := by
  obtain ⟨h1, h2, _, _⟩ := (pushB_iff f c p).1 h
  rw [pushF_yes f c p h]
  exact allTo_push f c p 7 h2 h1
theorem upd_upd (f : Ky) (c : Int) (A B : List Int) : upd (upd f c A) c B = upd f c B := by
  funext d
  unfold upd
  split <;> rfl
theorem all_pop {f : Ky} (hg : Good f) (c : Int) (h : popB f c = true) : (all f).Perm (⟨popV f c, pg c⟩ :: all (popF f c)) := by
  have hl : 0 < (f c).length := of_decide_eq_true h
  have hc : 0 ≤ c ∧ c < 7 := by
    refine ⟨Int.not_lt.1 fun e => ?_, Int.not_le.1 fun e => ?_⟩
    · rw [hg.out c (.inl e)] at hl; simp at hl
    · rw [hg.out c (.inr e)] at hl; simp at hl
  have hp := allTo_push (popF f c) c (popV f c) 7 hc.2 hc.1
  have e : upd (popF f c) c (popF f c c ++ [popV f c]) = f := by
    unfold popF
    rw [upd_self, upd_upd]
    have : (f c).dropLast ++ [popV f c] = f c := by
      unfold popV
      have hne : f c ≠ [] := List.length_pos_iff.1 hl
      rw [show (f c).getD ((f c).length - 1) 0 = (f c).getLast hne by rw [List.getLast_eq_getElem]; simp [List.getD, List.getElem?_eq_getElem (show (f c).length - 1 < (f c).length by omega)]]
      exact List.dropLast_concat_getLast hne
    rw [this, upd_same]
  rw [e] at hp
  exact hp
theorem total_rows (f : Ky) (k : Nat) : total (rows f k) = ((f k).length : Int) * pg k := by
  unfold rows
  generalize f k = L
  induction L with
  | nil => simp [total]
  | cons a L ih =>
    rw [List.map_cons, total_cons, ih, List.length_cons]
    simp only
    rw [Int.natCast_add, Int.add_mul]
    omega
theorem sum_total (f : Ky) : sum f = total (all f) := by
  have : ∀ k, sumTo f k = total (allTo f k) := by
    intro k
    induction k with
    | zero => rfl
    | succ k ih => simp only [sumTo, allTo, total_append, ih, total_rows]
  exact this 7
theorem all_pos {f : Ky} : ∀ r ∈ all f, 1 ≤ r.n := by
  have : ∀ k, k ≤ 7 → ∀ r ∈ allTo f k, 1 ≤ r.n := by
    intro k
    induction k with
    | zero => intro _ r hr; cases hr
    | succ k ih =>
      intro hk r hr
      rcases List.mem_append.1 hr with hr | hr
      · exact ih (by omega) r hr
      · obtain ⟨p, _, rfl⟩ := List.mem_map.1 hr
        exact pg_pos k (by omega)
  exact this 7 (by omega)
theorem total_pos' {L : List R} (h : ∀ r ∈ L, 1 ≤ r.n) : (L.length : Int) ≤ total L := by
  induction L with
  | nil => simp [total]
  | cons r L ih =>
    have h1 := h r (List.mem_cons_self ..)
    have h2 := ih (fun s hs => h s (List.mem_cons_of_mem _ hs))
    rw [total_cons, List.length_cons]
    omega
theorem sum_zero {f : Ky} : sum f = 0 ↔ all f = [] := by
  have h := total_pos' (all_pos (f := f))
  rw [sum_total]
  constructor
  · intro e
    exact List.length_eq_zero_iff.1 (by omega)
  · intro e; rw [e]; rfl
theorem all_length {f : Ky} (h : Good f) : (all f).length ≤ 28 := allTo_length h 7
/-- How many pages a chunk has. -/
def ckN (p : Int) : Int := if 0 ≤ cls p then pg (cls p) else p
theorem ckN_ge {p : Int} (h : 1 ≤ p) (h2 : p ≤ 1048576) : p ≤ ckN p ∧ ckN p ≤ 1048576 := by
  unfold ckN
  by_cases hp : p ≤ 64
  · have h3 := cls_some p h hp
    have := pg_le (cls p)
    rw [if_pos h3.1]
    omega
  · rw [cls_none p (by omega), if_neg (by omega)]
    omega
theorem ckN_pop {K : Ky} (h : Good K) {p : Int} (hb : popB K (cls p) = true) : pg (cls p) = ckN p := by
  unfold ckN
  by_cases hc : 0 ≤ cls p
  · rw [if_pos hc]
  · have : K (cls p) = [] := h.out _ (.inl (by omega))
    unfold popB at hb
    rw [this] at hb
    simp at hb
end M
/-! Where a chunk's pages come from. -/
structure Fd where
  p : Int
  e : Int
  l : List M.R
  K : M.Ky
  T : Int
def fd (P : Int) (l : List M.R) (K : M.Ky) (T c n : Int) : Fd :=
  if M.popB K c = true then ⟨M.popV K c, 0, l, M.popF K c, T⟩
  else if tkE l n = 4 ∧ M.sum K ≠ 0 then
    ⟨takeP (giveAll P (M.all K) l T).1 n, tkE (giveAll P (M.all K) l T).1 n, tkL (giveAll P (M.all K) l T).1 n, M.empty, tkT (giveAll P (M.all K) l T).1 n (giveAll P (M.all K) l T).2⟩
  else ⟨takeP l n, tkE l n, tkL l n, K, tkT l n T⟩
theorem tk_pt {P : Int} {l G : List M.R} {n : Int} (h : Pt P l G) (hn : 1 ≤ n) : (tkE l n = 0 ∧ takeB l n = true ∧ Pt P (tkL l n) (⟨takeP l n, n⟩ :: G)) ∨ (tkE l n = 4 ∧ takeB l n = false ∧ Pt P (tkL l n) G) := by
  unfold tkE tkL
  rw [if_neg (by omega)]
  rcases Bool.eq_false_or_eq_true (takeB l n) with hb | hb
  · rw [if_pos hb, if_pos hb]
    exact .inl ⟨rfl, hb, h.take hb⟩
  · rw [if_neg (by simp [hb]), if_neg (by simp [hb])]
    exact .inr ⟨rfl, hb, h⟩
theorem fd_pt {P : Int} {l G : List M.R} {K : M.Ky} (T : Int) {c n : Int} (hg : M.Good K) (h : Pt P l (M.all K ++ G)) (hn : 1 ≤ n) (hc : M.popB K c = true → M.pg c = n) :
    M.Good (fd P l K T c n).K ∧ (((fd P l K T c n).e = 0 ∧ Pt P (fd P l K T c n).l (⟨(fd P l K T c n).p, n⟩ :: (M.all (fd P l K T c n).K ++ G))) ∨
    ((fd P l K T c n).e = 4 ∧ Pt P (fd P l K T c n).l (M.all (fd P l K T c n).K ++ G) ∧ M.all (fd P l K T c n).K = [] ∧ takeB (fd P l K T c n).l n = false)) := by
  unfold fd
  by_cases hb : M.popB K c = true
  · rw [if_pos hb]
    refine ⟨hg.pop c, .inl ⟨rfl, ?_⟩⟩
    have hp := M.all_pop hg c hb
    rw [hc hb] at hp
    exact h.perm (hp.append_right G)
  · rw [if_neg hb]
    by_cases ht : tkE l n = 4 ∧ M.sum K ≠ 0
    · rw [if_pos ht]
      have h2 := giveAll_pt (M.all K) l T h
      refine ⟨M.Good.empty, ?_⟩
      rcases tk_pt h2 hn with ⟨e, _, hh⟩ | ⟨e, b, hh⟩
      · exact .inl ⟨e, hh⟩
      · refine .inr ⟨e, hh, rfl, ?_⟩
        show takeB (tkL _ n) n = false
        rw [tkL, if_neg (by simp [b])]
        exact b
    · rw [if_neg ht]
      refine ⟨hg, ?_⟩
      rcases tk_pt h hn with ⟨e, _, hh⟩ | ⟨e, b, hh⟩
      · exact .inl ⟨e, hh⟩
      · refine .inr ⟨e, hh, ?_, ?_⟩
        · exact M.sum_zero.1 (Classical.not_not.1 fun h0 => ht ⟨e, h0⟩)
        · show takeB (tkL _ n) n = false
          rw [tkL, if_neg (by simp [b])]
          exact b
theorem fd_fit {P : Int} (h0 : 0 ≤ P) (hP : P ≤ 1048576) {l : List M.R} {K : M.Ky} {T c n : Int} {k : Nat} (hg : M.Good K) (h : Fit P l T k) : Fit P (fd P l K T c n).l (fd P l K T c n).T (k + 30) := by
  unfold fd
  by_cases hb : M.popB K c = true
  · rw [if_pos hb]; exact h.mono (by omega)
  · rw [if_neg hb]
    by_cases ht : tkE l n = 4 ∧ M.sum K ≠ 0
    · rw [if_pos ht]
      have := M.all_length hg
      exact ((giveAll_fit h0 hP _ _ _ _ h).take h0 hP n).mono (by omega)
    · rw [if_neg ht]; exact (h.take h0 hP n).mono (by omega)
theorem fd_len {P : Int} {l : List M.R} {K : M.Ky} {T c n : Int} (hg : M.Good K) : (fd P l K T c n).l.length + (M.all (fd P l K T c n).K).length ≤ l.length + (M.all K).length := by
  unfold fd
  by_cases hb : M.popB K c = true
  · rw [if_pos hb]
    have := (M.all_pop hg c hb).length_eq
    simp only [List.length_cons] at this ⊢
    omega
  · rw [if_neg hb]
    by_cases ht : tkE l n = 4 ∧ M.sum K ≠ 0
    · rw [if_pos ht]
      have h1 := giveAll_length (P := P) (M.all K) l T
      have h2 := tkL_length (l := (giveAll P (M.all K) l T).1) (n := n)
      simp only [M.all_empty, List.length_nil]
      omega
    · rw [if_neg ht]
      have h2 := tkL_length (l := l) (n := n)
      simp only
      omega

/-! What becomes of a chunk that is put. -/
def ptK (K : M.Ky) (p n : Int) : Bool := decide (M.pg (M.cls n) = n) && M.pushB K (M.cls n) p
def ptKy (K : M.Ky) (p n : Int) : M.Ky := if ptK K p n = true then M.pushF K (M.cls n) p else K
def ptL (P : Int) (l : List M.R) (K : M.Ky) (p n : Int) : List M.R := if ptK K p n = true then l else gvL l P p n
def ptT (P : Int) (l : List M.R) (K : M.Ky) (p n T : Int) : Int := if ptK K p n = true then T else gvT l P p n T
theorem pt_pt {P : Int} {l G : List M.R} {K : M.Ky} {p n : Int} (hg : M.Good K) (h : Pt P l (⟨p, n⟩ :: (M.all K ++ G))) :
    M.Good (ptKy K p n) ∧ Pt P (ptL P l K p n) (M.all (ptKy K p n) ++ G) ∧ (ptK K p n = true ∨ gvE l P p n = 0) := by
  unfold ptKy ptL
  by_cases hb : ptK K p n = true
  · rw [if_pos hb, if_pos hb]
    refine ⟨hg.push _ _, ?_, .inl hb⟩
    unfold ptK at hb
    simp only [Bool.and_eq_true, decide_eq_true_eq] at hb
    have hp := M.all_push K (M.cls n) p hb.2
    rw [hb.1] at hp
    exact h.perm ((hp.append_right G).symm)
  · rw [if_neg hb, if_neg hb]
    have := Pt.give h
    refine ⟨hg, ?_, .inr ?_⟩
    · rw [gvL, if_pos this.1]; exact this.2
    · rw [gvE, if_pos this.1]
theorem pt_fit {P : Int} (h0 : 0 ≤ P) (hP : P ≤ 1048576) {l : List M.R} {K : M.Ky} {T p n : Int} {k : Nat} (h : Fit P l T k) : Fit P (ptL P l K p n) (ptT P l K p n T) (k + 1) := by
  unfold ptL ptT
  by_cases hb : ptK K p n = true
  · rw [if_pos hb, if_pos hb]; exact h.one
  · rw [if_neg hb, if_neg hb]; exact h.give h0 hP p n
theorem pt_len {P : Int} {l : List M.R} {K : M.Ky} {p n : Int} : (ptL P l K p n).length + (M.all (ptKy K p n)).length ≤ l.length + (M.all K).length + 1 := by
  unfold ptL ptKy
  by_cases hb : ptK K p n = true
  · rw [if_pos hb, if_pos hb]
    unfold ptK at hb
    simp only [Bool.and_eq_true, decide_eq_true_eq] at hb
    have := (M.all_push K (M.cls n) p hb.2).length_eq
    rw [List.length_cons] at this
    omega
  · rw [if_neg hb, if_neg hb]
    have := gvL_length (P := P) (l := l) (p := p) (n := n)
    omega
end Go.Proofs.Ytmagdhcpbofkbaa
/-
  Chunks in memory: what a Store is made of, and what stays of it when a part of it, or other blocks, are written.
-/
namespace Go.Proofs.Ytmagdhcpbofkbaa
open Go.ChangeShapes Go.WideShapes Go.ChangeAt Go.RowKit Go.Deep
set_option linter.unusedVariables false
set_option maxRecDepth 20000

/-- What chunks are made of, as a value. -/
abbrev gv (a b c : Nat) : Value := .agg #[.pointer (some ⟨a, 0, none⟩), .pointer (some ⟨b, 0, none⟩), .pointer (some ⟨c, 0, none⟩)]
/-- Three cells of a variable of one's own. -/
structure Bx3 (w : World) (g : Nat) (v0 v1 v2 : Value) : Prop where
  c0 : w.cell? ⟨g, 0, none⟩ = some v0
  c1 : w.cell? ⟨g, 1, none⟩ = some v1
  c2 : w.cell? ⟨g, 2, none⟩ = some v2
section
variable {w w' : World} {g : Nat} {v0 v1 v2 : Value} {O : Nat → Prop}
theorem Bx3.new (w : World) (ty : TypeId) (v0 v1 v2 : Value) : Bx3 (w.alloc (.cells #[v0, v1, v2] ty)) w.heap.size v0 v1 v2 :=
  ⟨by rw [World.cell?_alloc_mark]; rfl, by rw [World.cell?_alloc_mark]; rfl, by rw [World.cell?_alloc_mark]; rfl⟩
theorem Bx3.lt (h : Bx3 w g v0 v1 v2) : g < w.heap.size := lt_of_cell h.c0
theorem Bx3.below (h : Bx3 w g v0 v1 v2) (hb : Below w.heap.size w w') : Bx3 w' g v0 v1 v2 :=
  ⟨(hb.cell (lt_of_cell h.c0)).trans h.c0, (hb.cell (lt_of_cell h.c1)).trans h.c1, (hb.cell (lt_of_cell h.c2)).trans h.c2⟩
theorem Bx3.kept (h : Bx3 w g v0 v1 v2) (k : Kept w w' O) (n : ¬ O g) : Bx3 w' g v0 v1 v2 :=
  ⟨k.cell_some h.c0 n, k.cell_some h.c1 n, k.cell_some h.c2 n⟩
end

/-- The Alloc's free runs don't lie in that block. -/
def Apt (w : World) (a x : Nat) : Prop := ∀ b z c, w.cell? ⟨a, 1, none⟩ = some (.slice (some b) z c) → b.block ≠ x
theorem Apt.same {w w' : World} {a x : Nat} (h : Apt w a x) (e : w'.cell? ⟨a, 1, none⟩ = w.cell? ⟨a, 1, none⟩) : Apt w' a x := fun b z c hc => h b z c (e ▸ hc)
theorem Apt.new {w : World} {a : Nat} {P T : Int} {l : List M.R} (h : Has w a P l T) (hl : l ≠ []) {x : Nat} (hx : w.heap.size ≤ x) : Apt w a x := fun b z c hc e => by
  obtain ⟨A, z', c', hal, hz, hru⟩ := h
  rw [hal.c1] at hc
  cases hc
  obtain ⟨bl, o, e1, hc⟩ := hru (List.length_pos_iff.2 hl)
  cases e1
  have := lt_of_cell (hc 0 (List.length_pos_iff.2 hl)).1
  simp only at this e
  omega
theorem Apt.moved {w w' : World} {a x : Nat} {P T T' : Int} {l l' : List M.R} (h : l ≠ [] → Apt w a x) (hx : x < w.heap.size) (h1 : Has w a P l T) (h2 : Has w' a P l' T') (m : Moved w w' a) (hl : l' ≠ []) : Apt w' a x := by
  rcases m with e | ⟨A', z', c', e, hf⟩
  · by_cases h0 : l = []
    · obtain ⟨A, z, c, hal, hz, _⟩ := h1
      obtain ⟨A2, z2, c2, hal2, hz2, _⟩ := h2
      rw [hal.c1, hal2.c1] at e
      cases e
      rw [h0] at hz
      exact absurd (List.length_eq_zero_iff.1 (by rw [← hz2, hz]; rfl)) hl
    · exact (h h0).same e
  · intro b z c hb e2
    rw [e] at hb
    cases hb
    have := hf b rfl
    omega
/-- Blocks are written that are not the Alloc's. -/
theorem Std.besides {w0 w w' : World} {a : Nat} {P : Int} {l : List M.R} {T : Int} {k : Nat} {O : Nat → Prop} (h : Std w0 w a P l T k) (hk : Kept w w' O) (ha : ¬ O a) (hO : l ≠ [] → ∀ x, O x → Apt w a x) (hb : Below w0.heap.size w0 w') :
    Std w0 w' a P l T k ∧ w'.cell? ⟨a, 1, none⟩ = w.cell? ⟨a, 1, none⟩ := by
  obtain ⟨A, z, c, hal, hz, hru⟩ := h.has
  have hgb : w'.heap[a]? = w.heap[a]? := hk.block a hal.lt ha
  refine ⟨⟨⟨A, z, c, hal.keep hgb, hz, fun hl => ?_⟩, h.fit, hb, h.old, h.p1, h.p2⟩, World.cell?_of_block (w := w) (a := ⟨a, 1, none⟩) hgb⟩
  obtain ⟨bl, o, rfl, hc⟩ := hru hl
  have kk : ∀ j, bl < w.heap.size → w'.cell? ⟨bl, j, none⟩ = w.cell? ⟨bl, j, none⟩ := fun j hj => World.cell?_of_block (w := w) (a := ⟨bl, j, none⟩) (hk.block bl hj (fun e => hO (List.length_pos_iff.1 hl) bl e _ _ _ hal.c1 rfl))
  exact ⟨bl, o, rfl, fun i hi => ⟨(kk _ (lt_of_cell (hc i hi).1)).trans (hc i hi).1, (kk _ (lt_of_cell (hc i hi).2)).trans (hc i hi).2⟩⟩

/-- How a Store stands: its free runs, what ticked among the pages, what is kept; the space's ticks and bytes. -/
structure St where
  l : List M.R
  T : Int
  K : M.Ky
  u : Nat
  f : Nat → UInt8
/-- The parts of a Store that a call made, beside what it was handed; Q: the blocks that it may write; D: blocks that are someone's own, in which its list of free runs doesn't lie. -/
structure Sto (D : Nat → Prop) (w0 w : World) (a b c P : Nat) (Z : St) (Q : Nat → Prop) (k : Nat) : Prop where
  al : Std w0 w a (P : Int) Z.l Z.T k
  sp : ∃ O, At w0 w b P Z.u Z.f O ∧ (∀ x, O x → Q x) ∧ ¬ O a ∧ ¬ O c ∧ (Z.l ≠ [] → ∀ x, O x → Apt w a x)
  kp : Kp w0 w c Z.K
  qa : Q a
  qc : Q c
  ac : a ≠ c
  ap : Z.l ≠ [] → Apt w a c
  lt : ∀ x, Q x → x < w.heap.size
  old : ∀ x, Q x → w0.heap.size ≤ x
  rs : Z.l ≠ [] → ∀ x, D x → Apt w a x
  dl : ∀ x, D x → x < w.heap.size
section
variable {w0 w w' : World} {a b c P : Nat} {Z : St} {Q Q' D : Nat → Prop} {k k' : Nat}
theorem Sto.bel (h : Sto D w0 w a b c P Z Q k) : Below w0.heap.size w0 w := h.al.bel
theorem Sto.below (h : Sto D w0 w a b c P Z Q k) (hb : Below w.heap.size w w') : Sto D w0 w' a b c P Z Q k := by
  obtain ⟨O, h1, h2, h3, h4, h5⟩ := h.sp
  have e : w'.cell? ⟨a, 1, none⟩ = w.cell? ⟨a, 1, none⟩ := hb.cell (p := ⟨a, 1, none⟩) h.al.has.lt
  exact ⟨h.al.below hb, ⟨O, h1.same hb, h2, h3, h4, fun hl x hx => (h5 hl x hx).same e⟩, h.kp.below hb, h.qa, h.qc, h.ac, fun hl => (h.ap hl).same e, fun x hx => Nat.lt_of_lt_of_le (h.lt x hx) hb.size, h.old, fun hl x hx => (h.rs hl x hx).same e, fun x hx => Nat.lt_of_lt_of_le (h.dl x hx) hb.size⟩
theorem Sto.drew (h : Sto D w0 w a b c P Z Q k) : Sto D w0 w.drew a b c P Z Q k := h.below (Below.refl _ _).drew
theorem Sto.alloc (h : Sto D w0 w a b c P Z Q k) (o : Obj) : Sto D w0 (w.alloc o) a b c P Z Q k := h.below ((Below.refl _ _).alloc (Nat.le_refl _) _)
theorem Sto.wide (h : Sto D w0 w a b c P Z Q k) (hq : ∀ x, Q x → Q' x) (h1 : ∀ x, Q' x → x < w.heap.size) (h2 : ∀ x, Q' x → w0.heap.size ≤ x) : Sto D w0 w a b c P Z Q' k := by
  obtain ⟨O, g1, g2, g3, g4, g5⟩ := h.sp
  exact ⟨h.al, ⟨O, g1, fun x hx => hq x (g2 x hx), g3, g4, g5⟩, h.kp, hq a h.qa, hq c h.qc, h.ac, h.ap, h1, h2, h.rs, h.dl⟩
/-- .. behind a call that began at w. -/
theorem Sto.wid (h : Sto D w0 w' a b c P Z Q' k) (hw : Below w0.heap.size w0 w) (hs : w.heap.size ≤ w'.heap.size) (hQ : ∀ x, Q x → x < w.heap.size ∧ w0.heap.size ≤ x) (hq : ∀ x, Q' x → Q x ∨ w.heap.size ≤ x) : Sto D w0 w' a b c P Z (Wid Q w w') k :=
  h.wide (fun x hx => (hq x hx).imp id (fun e => ⟨e, h.lt x hx⟩)) (fun x hx => hx.elim (fun e => Nat.lt_of_lt_of_le (hQ x e).1 hs) (fun e => e.2)) (fun x hx => hx.elim (fun e => (hQ x e).2) (fun e => Nat.le_trans hw.size e.1))
theorem Sto.more (h : Sto D w0 w a b c P Z Q k) (hk : k ≤ k') : Sto D w0 w a b c P Z Q k' :=
  ⟨⟨h.al.has, h.al.fit.mono hk, h.al.bel, h.al.old, h.al.p1, h.al.p2⟩, h.sp, h.kp, h.qa, h.qc, h.ac, h.ap, h.lt, h.old, h.rs, h.dl⟩
theorem Sto.bounds (h : Sto D w0 w a b c P Z Q k) : 1 ≤ P ∧ P ≤ 1048576 := ⟨by have := h.al.p1; omega, by have := h.al.p2; omega⟩
theorem Sto.qlo (h : Sto D w0 w a b c P Z Q k) : ∀ x, Q x → x < w.heap.size ∧ w0.heap.size ≤ x := fun x hx => ⟨h.lt x hx, h.old x hx⟩
theorem Sto.kept_below (h : Sto D w0 w a b c P Z Q k) (hk : Kept w w' Q) : Below w0.heap.size w0 w' := h.bel.trans (hk.below h.bel.size h.old)
/-- Pages were taken or given back. -/
theorem Sto.pages (h : Sto D w0 w a b c P Z Q k) {l' : List M.R} {T' : Int} (hh : Has w' a P l' T') (hg : w.grownBy w' (some a)) (hf : Fit P l' T' k') (m : Moved w w' a) :
    Sto D w0 w' a b c P { Z with l := l', T := T' } Q k' ∧ Kept w w' Q := by
  obtain ⟨O, h1, h2, h3, h4, h5⟩ := h.sp
  have kq : Kept w w' Q := (Kept.refl w Q).grown hg (fun x e _ => by cases e; exact h.qa)
  have k1 : Kept w w' (fun x => x = a) := (Kept.refl w _).grown hg (fun x e _ => by cases e; rfl)
  have hb := h.kept_below kq
  refine ⟨⟨h.al.grown hh hg hf, ⟨O, h1.other k1 (fun x hx e => h3 (e ▸ hx)) hb, h2, h3, h4, fun hl x hx => ?_⟩, h.kp.other (fun e => h.ac e.symm) h.al.old hg, h.qa, h.qc, h.ac, fun hl => ?_, fun x hx => Nat.lt_of_lt_of_le (h.lt x hx) hg.size, h.old, fun hl x hx => Apt.moved (fun e => h.rs e x hx) (h.dl x hx) h.al.has hh m hl, fun x hx => Nat.lt_of_lt_of_le (h.dl x hx) hg.size⟩, kq⟩
  · exact Apt.moved (fun e => h5 e x hx) (h.lt x (h2 x hx)) h.al.has hh m hl
  · exact Apt.moved h.ap (h.lt c h.qc) h.al.has hh m hl
/-- Something is kept, or was popped. -/
theorem Sto.keeps (h : Sto D w0 w a b c P Z Q k) {K' : M.Ky} (hh : Kp w0 w' c K') (hg : w.grownBy w' (some c)) :
    Sto D w0 w' a b c P { Z with K := K' } Q k ∧ Kept w w' Q := by
  obtain ⟨O, h1, h2, h3, h4, h5⟩ := h.sp
  have kq : Kept w w' Q := (Kept.refl w Q).grown hg (fun x e _ => by cases e; exact h.qc)
  have k1 : Kept w w' (fun x => x = c) := (Kept.refl w _).grown hg (fun x e _ => by cases e; rfl)
  have hb := h.kept_below kq
  have hs := h.al.besides k1 (fun e => h.ac e) (fun hl x e => e ▸ h.ap hl) hb
  exact ⟨⟨hs.1, ⟨O, h1.other k1 (fun x hx e => h4 (e ▸ hx)) hb, h2, h3, h4, fun hl x hx => (h5 hl x hx).same hs.2⟩, hh, h.qa, h.qc, h.ac, fun hl => (h.ap hl).same hs.2, fun x hx => Nat.lt_of_lt_of_le (h.lt x hx) hg.size, h.old, fun hl x hx => (h.rs hl x hx).same hs.2, fun x hx => Nat.lt_of_lt_of_le (h.dl x hx) hg.size⟩, kq⟩
theorem Kp.besides {g : Nat} {f : M.Ky} {O : Nat → Prop} (h : Kp w0 w g f) (hk : Kept w w' O) (hg : ¬ O g) (hb : Below w0.heap.size w0 w') : Kp w0 w' g f := ⟨⟨h.has.good, (hk.block g h.has.lt hg).trans h.has.blk⟩, hb, h.old⟩
/-- The space is read or written. -/
theorem Sto.bytes (h : Sto D w0 w a b c P Z Q k) {u' : Nat} {f' : Nat → UInt8} {O O' : Nat → Prop} (hO : ∀ x, O x → Q x) (ha : ¬ O a) (hc : ¬ O c) (hl : Z.l ≠ [] → ∀ x, O x → Apt w a x) (hh : At w0 w' b P u' f' O') (hk : Kept w w' O) (hO' : ∀ x, O' x → Wid O w w' x) :
    Sto D w0 w' a b c P { Z with u := u', f := f' } (Wid Q w w') k ∧ Kept w w' Q := by
  have kq : Kept w w' Q := hk.mono (fun x _ e => hO x e)
  have hb := h.kept_below kq
  have hs := h.al.besides hk ha hl hb
  have hat := h.al.has.lt
  have hct := h.kp.has.lt
  refine ⟨⟨hs.1, ⟨O', hh, fun x hx => (hO' x hx).imp (hO x) id, fun e => (hO' a e).elim ha (fun e => by omega), fun e => (hO' c e).elim hc (fun e => by omega), fun e x hx => ?_⟩, h.kp.besides hk hc hb, .inl h.qa, .inl h.qc, h.ac, fun e => (h.ap e).same hs.2, fun x hx => ?_, fun x hx => ?_, fun e x hx => (h.rs e x hx).same hs.2, fun x hx => Nat.lt_of_lt_of_le (h.dl x hx) hk.size⟩, kq⟩
  · rcases hO' x hx with hx | hx
    · exact (hl e x hx).same hs.2
    · exact (Apt.new h.al.has e hx.1).same hs.2
  · exact hx.elim (fun e => Nat.lt_of_lt_of_le (h.lt x e) hk.size) (fun e => e.2)
  · exact hx.elim (h.old x) (fun e => Nat.le_trans h.bel.size e.1)

/-! The calls of its parts. -/
theorem st_take (h : Sto D w0 w a b c P Z Q k) (hk : k ≤ 100000) (n : Int) :
    Calls Try.prog 50 #[.pointer (some ⟨a, 0, none⟩), .int .i64 n] w fun e w' => e = .returned (.tuple #[.int .i64 (takeP Z.l n), .int .i64 (tkE Z.l n)]) ∧ Sto D w0 w' a b c P { Z with l := tkL Z.l n, T := tkT Z.l n Z.T } Q (k + 1) ∧ Kept w w' Q := by
  have h1 := h.al.p1
  have h2 := h.al.p2
  have h3 := h.al.fit.t1
  refine (al_take3 w a P Z.l Z.T h.al.has h.al.fit.ok (by omega) (by omega) h.al.fit.t0 (by omega) n).mono ?_
  rintro e w' ⟨⟨rfl, hh, hg⟩, hm⟩
  exact ⟨rfl, h.pages hh hg (h.al.fit.take (by omega) h2 n) hm⟩
theorem st_give (h : Sto D w0 w a b c P Z Q k) (hk : k ≤ 100000) (p n : Int) (hp : -9223372036854775808 ≤ p) :
    Calls Try.prog 39 #[.pointer (some ⟨a, 0, none⟩), .int .i64 p, .int .i64 n] w fun e w' => e = .returned (.int .i64 (gvE Z.l P p n)) ∧ Sto D w0 w' a b c P { Z with l := gvL Z.l P p n, T := gvT Z.l P p n Z.T } Q (k + 1) ∧ Kept w w' Q := by
  have h1 := h.al.p1
  have h2 := h.al.p2
  have h3 := h.al.fit.t1
  refine (al_give3 w a P Z.l Z.T h.al.has h.al.fit.ok (by omega) (by omega) h.al.fit.t0 (by omega) p n hp).mono ?_
  rintro e w' ⟨⟨rfl, hh, hg⟩, hm⟩
  exact ⟨rfl, h.pages hh hg (h.al.fit.give (by omega) h2 p n) hm⟩
theorem st_runs (h : Sto D w0 w a b c P Z Q k) : Calls Try.prog 31 #[.pointer (some ⟨a, 0, none⟩)] w (GotR w Z.l) := s_runs h.al
theorem st_push (h : Sto D w0 w a b c P Z Q k) (d p : Int) : Calls Try.prog 38 #[.pointer (some ⟨c, 0, none⟩), .int .i64 d, .int .i64 p] w fun e w' => e = .returned (.bool (M.pushB Z.K d p)) ∧ Sto D w0 w' a b c P { Z with K := M.pushF Z.K d p } Q k ∧ Kept w w' Q := by
  refine (k_push h.kp d p).mono ?_
  rintro e w' ⟨rfl, hh, hg⟩
  exact ⟨rfl, h.keeps hh hg⟩
theorem st_pop (h : Sto D w0 w a b c P Z Q k) (d : Int) : Calls Try.prog 47 #[.pointer (some ⟨c, 0, none⟩), .int .i64 d] w fun e w' => e = .returned (.tuple #[.int .i64 (M.popV Z.K d), .bool (M.popB Z.K d)]) ∧ Sto D w0 w' a b c P { Z with K := M.popF Z.K d } Q k ∧ Kept w w' Q := by
  refine (k_pop h.kp d).mono ?_
  rintro e w' ⟨rfl, hh, hg⟩
  exact ⟨rfl, h.keeps hh hg⟩
theorem st_clear (h : Sto D w0 w a b c P Z Q k) : Calls Try.prog 45 #[.pointer (some ⟨c, 0, none⟩)] w fun e w' => e = .returned (.tuple #[]) ∧ Sto D w0 w' a b c P { Z with K := M.empty } Q k ∧ Kept w w' Q := by
  refine (k_clear h.kp).mono ?_
  rintro e w' ⟨rfl, hh, hg⟩
  exact ⟨rfl, h.keeps hh hg⟩
theorem st_kept (h : Sto D w0 w a b c P Z Q k) : Calls Try.prog 43 #[.pointer (some ⟨c, 0, none⟩)] w fun e w' => e = .returned (.int .i64 (M.sum Z.K)) ∧ w = w' := k_pages h.kp
theorem st_all (h : Sto D w0 w a b c P Z Q k) : Calls Try.prog 44 #[.pointer (some ⟨c, 0, none⟩)] w (AllGot w (M.all Z.K)) := k_all h.kp
theorem st_read (h : Sto D w0 w a b c P Z Q k) (x : Int) (q p d o n : Nat) (hx : x = q) (hq : q < P) (hs : Stands Z.f q p d o n) (hT : Z.u ≤ 900000000000) :
    Calls Try.prog 14 #[.pointer (some ⟨b, 0, none⟩), .int .i64 x] w fun e w' => e = .returned (.tuple #[hv p d o n, .int .i64 0]) ∧ Sto D w0 w' a b c P { Z with u := Z.u + 1 } (Wid Q w w') k ∧ Kept w w' Q := by
  obtain ⟨O, h1, h2, h3, h4, h5⟩ := h.sp
  refine (read_hd h1 x q p d o n hx hq hs hT).mono ?_
  rintro e w' ⟨rfl, hh, hk⟩
  exact ⟨rfl, h.bytes h2 h3 h4 h5 hh hk (fun x hx => .inl hx)⟩
theorem st_wipe (h : Sto D w0 w a b c P Z Q k) (x : Int) (q : Nat) (hx : x = q) (hq : q < P) (hs : M.isH (M.rd Z.f (q * 4096) 32) = true) (hT : Z.u ≤ 800000000000) :
    Calls Try.prog 37 #[.pointer (some ⟨b, 0, none⟩), .int .i64 x] w fun e w' => e = .returned (.int .i64 0) ∧ Sto D w0 w' a b c P { Z with u := Z.u + 2, f := M.zr Z.f (q * 4096) 32 } (Wid Q w w') k ∧ Kept w w' Q := by
  obtain ⟨O, h1, h2, h3, h4, h5⟩ := h.sp
  refine (clear_hd h1 x q hx hq hs hT).mono ?_
  rintro e w' ⟨rfl, hh, hk⟩
  exact ⟨rfl, h.bytes h2 h3 h4 h5 hh hk (fun x hx => hx)⟩
theorem st_write (h : Sto D w0 w a b c P Z Q k) (x : Int) (q : Nat) (y z : Int) (p d o n : Nat) (hx : x = q) (hq : q < P) (hy : y = p) (hz : z = d) (hr : M.right (p : Nat) (d : Nat) = true) (ho : o < 18446744073709551616) (hn : n < 18446744073709551616) (hT : Z.u ≤ 900000000000) :
    Calls Try.prog 35 #[.pointer (some ⟨b, 0, none⟩), .int .i64 x, hv y z o n] w fun e w' => e = .returned (.int .i64 0) ∧ Sto D w0 w' a b c P { Z with u := Z.u + 1, f := M.wr Z.f (q * 4096) (M.hd p d o n) } (Wid Q w w') k ∧ Kept w w' Q := by
  obtain ⟨O, h1, h2, h3, h4, h5⟩ := h.sp
  refine (write_hd h1 x q y z p d o n hx hq hy hz hr ho hn hT).mono ?_
  rintro e w' ⟨rfl, hh, hk⟩
  exact ⟨rfl, h.bytes h2 h3 h4 h5 hh hk (fun x hx => hx)⟩
theorem st_size (h : Sto D w0 w a b c P Z Q k) : Calls Try.prog 59 #[.pointer (some ⟨b, 0, none⟩)] w fun e w' => e = .returned (.int .i64 (P : Int)) ∧ w = w' := by
  obtain ⟨O, h1, _⟩ := h.sp
  exact spages_any h1.sp
end
end Go.Proofs.Ytmagdhcpbofkbaa
/-
  What chunks are made of, by the program: the closure, trim, twice, find.
-/
namespace Go.Proofs.Ytmagdhcpbofkbaa
open Go.ChangeShapes Go.WideShapes Go.ChangeAt Go.RowKit Go.Deep
set_option linter.unusedVariables false
set_option maxRecDepth 20000

theorem Runs.besides {w w' : World} {A : Option Addr} {l : List M.R} {O : Nat → Prop} (h : Runs w A l) (hk : Kept w w' O) (hO : ∀ ad, A = some ad → ¬ O ad.block) : Runs w' A l := fun hl => by
  obtain ⟨bl, o, rfl, hc⟩ := h hl
  have hn : ¬ O bl := hO ⟨bl, o, none⟩ rfl
  exact ⟨bl, o, rfl, fun i hi => ⟨hk.cell_some (hc i hi).1 hn, hk.cell_some (hc i hi).2 hn⟩⟩
/-- What is kept was given back; of all, and of the first ones. -/
def St.trim (P : Nat) (Z : St) : St := ⟨(giveAll P (M.all Z.K) Z.l Z.T).1, (giveAll P (M.all Z.K) Z.l Z.T).2, M.empty, Z.u, Z.f⟩
def St.upto (P : Nat) (Z : St) (j : Nat) : St := ⟨(giveAll P ((M.all Z.K).take j) Z.l Z.T).1, (giveAll P ((M.all Z.K).take j) Z.l Z.T).2, Z.K, Z.u, Z.f⟩
theorem St.upto_zero (P : Nat) (Z : St) : Z.upto P 0 = Z := by unfold St.upto; rw [List.take_zero]; rfl
theorem St.upto_succ (P : Nat) (Z : St) (j : Nat) (hj : j < (M.all Z.K).length) :
    Z.upto P (j + 1) = { Z.upto P j with l := gvL (Z.upto P j).l P (M.all Z.K)[j].p (M.all Z.K)[j].n, T := gvT (Z.upto P j).l P (M.all Z.K)[j].p (M.all Z.K)[j].n (Z.upto P j).T } := by
  unfold St.upto
  rw [List.take_succ_eq_append_getElem hj, giveAll_append]
  rfl
theorem St.upto_all (P : Nat) (Z : St) : { Z.upto P (M.all Z.K).length with K := M.empty } = Z.trim P := by
  unfold St.upto St.trim
  rw [List.take_length]
section
variable {w0 w : World} {a b c P : Nat} {Z : St} {Q D : Nat → Prop} {k : Nat}
set_option maxHeartbeats 2000000 in
theorem clo10_any (h : Sto D w0 w a b c P Z Q k) (hk : k ≤ 100000) (v t : Nat) (n : Int) (hv : w.cell? ⟨v, 0, none⟩ = some (.pointer (some ⟨a, 0, none⟩))) (ht : w.cell? ⟨t, 0, none⟩ = some (.int .i64 n)) :
    Calls Try.prog 49 #[.pointer (some ⟨v, 0, none⟩), .pointer (some ⟨t, 0, none⟩)] w fun e w' => e = .returned (.tuple #[.int .i64 (takeP Z.l n), .int .i64 (tkE Z.l n)]) ∧ Sto D w0 w' a b c P { Z with l := tkL Z.l n, T := tkT Z.l n Z.T } Q (k + 1) ∧ Kept w w' Q := by
  have HT := Lib.hid (st_take h hk n)
  clear h hk
  go_enter Try.func49, Try.ntmps49
  go_wp2_with fail
  refine HT.out.mono ?_
  rintro e w1 ⟨rfl, hh⟩
  have H1 := Lib.hid hh
  clear hh HT hv ht
  go_wp2_with fail
  go_ret2
  exact ⟨rfl, H1.out⟩

set_option maxHeartbeats 4000000 in
theorem trim_any (h : Sto D w0 w a b c P Z Q k) (hk : k ≤ 90000) (hK : ∀ r ∈ M.all Z.K, 0 ≤ r.p) :
    Calls Try.prog 30 #[gv a b c] w fun e w' => e = .returned (.int .i64 (M.sum Z.K)) ∧ Sto D w0 w' a b c P (Z.trim P) Q (k + 28) ∧ Kept w w' Q := by
  obtain ⟨w1, hw1⟩ : ∃ w1, w1 = w.alloc (.cells #[.pointer (some ⟨a, 0, none⟩), .pointer (some ⟨b, 0, none⟩), .pointer (some ⟨c, 0, none⟩)] 61) := ⟨_, rfl⟩
  have X1 := Lib.hid (show Bx3 w1 w.heap.size (.pointer (some ⟨a, 0, none⟩)) (.pointer (some ⟨b, 0, none⟩)) (.pointer (some ⟨c, 0, none⟩)) from by rw [hw1]; exact Bx3.new _ _ _ _ _)
  have H1 := Lib.hid (show Sto D w0 w1 a b c P Z Q k ∧ Kept w w1 Q ∧ ¬ Q w.heap.size from ⟨by rw [hw1]; exact h.alloc _, by rw [hw1]; exact (Kept.refl w Q).alloc _, fun e => by have := h.lt _ e; omega⟩)
  have HK := Lib.hid (And.intro hK (And.intro hk (M.all_length h.kp.has.good)))
  clear h hK hk
  go_enter Try.func30, Try.ntmps30
  go_upto_region 1 with fail
  rw [← hw1]
  generalize w.heap.size = v at *
  clear hw1
  have c0 := X1.out.c0
  have c2 := X1.out.c2
  go_wp2_with fail
  refine (st_kept H1.out.1).mono ?_
  rintro e w1' ⟨rfl, rfl⟩
  obtain ⟨S, hS⟩ : ∃ S, S = M.sum Z.K := ⟨_, rfl⟩
  rw [← hS]
  have HS := Lib.hid hS
  clear hS
  go_wp2_with fail
  refine (st_all H1.out.1).mono ?_
  rintro e w2 ⟨g, z, rfl, hz, hz28, hR, hg, hb⟩
  obtain ⟨A, hA⟩ : ∃ A, A = some (⟨g, 0, none⟩ : Addr) := ⟨_, rfl⟩
  rw [← hA] at hR ⊢
  have H2 := Lib.hid (show Sto D w0 w2 a b c P (Z.upto P 0) Q (k + 0) ∧ Kept w w2 Q ∧ Runs w2 A (M.all Z.K) ∧ Bx3 w2 v (.pointer (some ⟨a, 0, none⟩)) (.pointer (some ⟨b, 0, none⟩)) (.pointer (some ⟨c, 0, none⟩)) from ⟨by rw [St.upto_zero]; exact H1.out.1.below hb, H1.out.2.1.trans (Kept.of_below hb Q) (fun _ _ e => e), hR, X1.out.below hb⟩)
  have HA := Lib.hid (show ∀ ad, A = some ad → ¬ Q ad.block from fun ad e q => by
    rw [hA] at e
    cases e
    have := H1.out.1.lt _ q
    simp only at this
    omega)
  have HZ := Lib.hid hz
  have HQ := Lib.hid H1.out.2.2
  clear hA hz hR hg hb H1 X1 c0 c2
  go_wp2_with fail
  go_loopw [13] (fun i wr => ∃ (j : Nat), j ≤ z ∧ i = .int .i64 (j : Int) ∧ Hid (Sto D w0 wr a b c P (Z.upto P j) Q (k + j) ∧ Kept w wr Q ∧ Runs wr A (M.all Z.K) ∧ Bx3 wr v (.pointer (some ⟨a, 0, none⟩)) (.pointer (some ⟨b, 0, none⟩)) (.pointer (some ⟨c, 0, none⟩)))) (fun i _ => z - (intOf i).toNat)
  case atStart => exact ⟨0, by omega, rfl, H2⟩
  case round =>
    obtain ⟨j, hj, rfl, HI⟩ := hrel
    by_cases hlt : j < z
    · have hjl : j < (M.all Z.K).length := by have := HZ.out; omega
      obtain ⟨bl, o, hAe, hc⟩ := HI.out.2.2.1 (by omega)
      have d0 := (hc j hjl).1
      have d1 := (hc j hjl).2
      have hSucc := Lib.hid (St.upto_succ P Z j hjl)
      have hp0 := HK.out.1 _ (List.getElem_mem hjl)
      generalize (M.all Z.K)[j].p = p at *
      generalize (M.all Z.K)[j].n = n at *
      subst hAe
      have BX := Box.new wr 34 p n
      have x0 := BX.c0
      have x1 := BX.c1
      have b3 := (Below.refl wr.heap.size wr).alloc (Nat.le_refl _) (.cells #[.int .i64 p, .int .i64 n] 34)
      obtain ⟨w3, hw3⟩ : ∃ w3, w3 = wr.alloc (.cells #[.int .i64 p, .int .i64 n] 34) := ⟨_, rfl⟩
      rw [← hw3] at x0 x1 b3
      have y := HI.out.2.2.2.below b3
      have y0 := y.c0
      have H3 := Lib.hid (show Sto D w0 w3 a b c P (Z.upto P j) Q (k + j) ∧ Kept w w3 Q ∧ Runs w3 (some ⟨bl, o, none⟩) (M.all Z.K) ∧ Bx3 w3 v (.pointer (some ⟨a, 0, none⟩)) (.pointer (some ⟨b, 0, none⟩)) (.pointer (some ⟨c, 0, none⟩)) from ⟨HI.out.1.below b3, HI.out.2.1.trans (Kept.of_below b3 Q) (fun _ _ e => e), HI.out.2.2.1.below b3, y⟩)
      have HC := Lib.hid (st_give H3.out.1 (by have := HK.out; omega) p n (by omega))
      clear hc b3 y BX HI hp0
      go_upto_region 5 with fail
      rw [← hw3]
      clear hw3
      go_wp2_with fail
      refine HC.out.mono ?_
      rintro e w4 ⟨rfl, hh, hk⟩
      rw [← hSucc.out] at hh
      have H4 := Lib.hid (show Sto D w0 w4 a b c P (Z.upto P (j + 1)) Q (k + (j + 1)) ∧ Kept w w4 Q ∧ Runs w4 (some ⟨bl, o, none⟩) (M.all Z.K) ∧ Bx3 w4 v (.pointer (some ⟨a, 0, none⟩)) (.pointer (some ⟨b, 0, none⟩)) (.pointer (some ⟨c, 0, none⟩)) from ⟨hh, H3.out.2.1.trans hk (fun _ _ e => e), H3.out.2.2.1.besides hk HA.out, H3.out.2.2.2.kept hk HQ.out⟩)
      clear hh hk
      go_wp2_with fail
      go_roundw
      case rel => exact ⟨j + 1, by omega, by go_num, H4⟩
      case measure => simp [intOf]; omega
    · have hjz : j = (M.all Z.K).length := by have := HZ.out; omega
      have c2 := HI.out.2.2.2.c2
      have hs := HI.out.1
      rw [hjz] at hs
      have HE := Lib.hid (show Sto D w0 wr a b c P (Z.upto P (M.all Z.K).length) Q (k + 28) ∧ Kept w wr Q from ⟨hs.more (by have := HK.out; omega), HI.out.2.1⟩)
      clear hs HI hjz
      go_wp2_with fail
      refine (st_clear HE.out.1).mono ?_
      rintro e w5 ⟨rfl, hh, hk⟩
      rw [St.upto_all] at hh
      have H5 := Lib.hid (And.intro hh (HE.out.2.trans hk (fun _ _ e => e)))
      clear hh hk HE
      go_wp2_with fail
      go_ret
      exact ⟨by rw [HS.out]; rfl, H5.out⟩

/-- What is taken, perhaps once more behind a trim. -/
def tw (P : Int) (l : List M.R) (K : M.Ky) (T n : Int) : Fd :=
  if tkE l n = 4 ∧ M.sum K ≠ 0 then
    ⟨takeP (giveAll P (M.all K) l T).1 n, tkE (giveAll P (M.all K) l T).1 n, tkL (giveAll P (M.all K) l T).1 n, M.empty, tkT (giveAll P (M.all K) l T).1 n (giveAll P (M.all K) l T).2⟩
  else ⟨takeP l n, tkE l n, tkL l n, K, tkT l n T⟩
theorem fd_no {P : Int} {l : List M.R} {K : M.Ky} {T c n : Int} (h : M.popB K c = false) : fd P l K T c n = tw P l K T n := by unfold fd tw; rw [if_neg (by simp [h])]
theorem fd_yes {P : Int} {l : List M.R} {K : M.Ky} {T c n : Int} (h : M.popB K c = true) : fd P l K T c n = ⟨M.popV K c, 0, l, M.popF K c, T⟩ := by unfold fd; rw [if_pos h]
def St.of (Z : St) (F : Fd) : St := ⟨F.l, F.T, F.K, Z.u, Z.f⟩
set_option maxHeartbeats 4000000 in
theorem twice_any (h : Sto D w0 w a b c P Z Q k) (hk : k ≤ 80000) (hK : ∀ r ∈ M.all Z.K, 0 ≤ r.p) (v t : Nat) (n : Int) (hv : Bx3 w v (.pointer (some ⟨a, 0, none⟩)) (.pointer (some ⟨b, 0, none⟩)) (.pointer (some ⟨c, 0, none⟩))) (ht : w.cell? ⟨t, 0, none⟩ = some (.int .i64 n)) (qv : ¬ Q v) (qt : ¬ Q t) :
    Calls Try.prog 48 #[gv a b c, .func (.func 49) #[] #[.pointer (some ⟨v, 0, none⟩), .pointer (some ⟨t, 0, none⟩)]] w fun e w' => e = .returned (.tuple #[.int .i64 (tw P Z.l Z.K Z.T n).p, .int .i64 (tw P Z.l Z.K Z.T n).e]) ∧ Sto D w0 w' a b c P (Z.of (tw P Z.l Z.K Z.T n)) Q (k + 30) ∧ Kept w w' Q := by
  obtain ⟨w1, hw1⟩ : ∃ w1, w1 = w.alloc (.cells #[.pointer (some ⟨a, 0, none⟩), .pointer (some ⟨b, 0, none⟩), .pointer (some ⟨c, 0, none⟩)] 61) := ⟨_, rfl⟩
  have hb : Below w.heap.size w w1 := by rw [hw1]; exact (Below.refl _ _).alloc (Nat.le_refl _) _
  have X1 := Lib.hid (show Bx3 w1 w.heap.size (.pointer (some ⟨a, 0, none⟩)) (.pointer (some ⟨b, 0, none⟩)) (.pointer (some ⟨c, 0, none⟩)) from by rw [hw1]; exact Bx3.new _ _ _ _ _)
  have H1 := Lib.hid (show Sto D w0 w1 a b c P Z Q k ∧ Kept w w1 Q ∧ ¬ Q w.heap.size ∧ Bx3 w1 v (.pointer (some ⟨a, 0, none⟩)) (.pointer (some ⟨b, 0, none⟩)) (.pointer (some ⟨c, 0, none⟩)) ∧ w1.cell? ⟨t, 0, none⟩ = some (.int .i64 n) from ⟨h.below hb, Kept.of_below hb Q, fun e => (by have := h.lt _ e; omega), hv.below hb, (hb.cell (lt_of_cell ht)).trans ht⟩)
  have HK := Lib.hid (And.intro hK (And.intro hk (And.intro qv qt)))
  clear h hK hk hv ht qv qt hb
  go_enter Try.func48, Try.ntmps48
  go_upto_region 1 with fail
  rw [← hw1]
  generalize w.heap.size = x at *
  clear hw1
  go_wp2_with fail
  refine (clo10_any H1.out.1 (by have := HK.out; omega) v t n H1.out.2.2.2.1.c0 H1.out.2.2.2.2).mono ?_
  rintro e w2 ⟨rfl, hh, hk2⟩
  have H2 := Lib.hid (show Sto D w0 w2 a b c P { Z with l := tkL Z.l n, T := tkT Z.l n Z.T } Q (k + 1) ∧ Kept w w2 Q ∧ Bx3 w2 v (.pointer (some ⟨a, 0, none⟩)) (.pointer (some ⟨b, 0, none⟩)) (.pointer (some ⟨c, 0, none⟩)) ∧ w2.cell? ⟨t, 0, none⟩ = some (.int .i64 n) from ⟨hh, H1.out.2.1.trans hk2 (fun _ _ e => e), H1.out.2.2.2.1.kept hk2 HK.out.2.2.1, hk2.cell_some H1.out.2.2.2.2 HK.out.2.2.2⟩)
  have hX2 := X1.out.kept hk2 H1.out.2.2.1
  have c0 := hX2.c0
  have c1 := hX2.c1
  have c2 := hX2.c2
  clear hh hk2 X1 H1 hX2
  by_cases h4 : tkE Z.l n = 4
  · have hb4 : takeB Z.l n = false := by
      rcases Bool.eq_false_or_eq_true (takeB Z.l n) with e | e
      · unfold tkE at h4
        rw [if_pos e] at h4
        split at h4 <;> omega
      · exact e
    have hl4 : tkL Z.l n = Z.l := by unfold tkL; rw [hb4]; rfl
    have ht4 : tkT Z.l n Z.T = Z.T := by unfold tkT; rw [hb4]; rfl
    rw [hl4, ht4] at H2
    rw [h4]
    by_cases hs : M.sum Z.K = 0
    · have HW := Lib.hid (show tw P Z.l Z.K Z.T n = ⟨takeP Z.l n, 4, Z.l, Z.K, Z.T⟩ from by unfold tw; rw [if_neg (fun e => e.2 hs), h4, hl4, ht4])
      have HS := Lib.hid hs
      clear hb4 hl4 ht4 hs h4
      go_wp2_with fail
      refine (st_kept H2.out.1).mono ?_
      rintro e w3 ⟨rfl, rfl⟩
      rw [show (M.sum ({ Z with l := Z.l, T := Z.T } : St).K) = 0 from HS.out]
      go_wp2_with fail
      go_ret2
      rw [HW.out]
      exact ⟨rfl, H2.out.1.more (by omega), H2.out.2.1⟩
    · have HW := Lib.hid (show tw P Z.l Z.K Z.T n = ⟨takeP (Z.trim P).l n, tkE (Z.trim P).l n, tkL (Z.trim P).l n, M.empty, tkT (Z.trim P).l n (Z.trim P).T⟩ from by unfold tw; rw [if_pos ⟨h4, hs⟩]; rfl)
      obtain ⟨S, hS⟩ : ∃ S, S = M.sum Z.K := ⟨_, rfl⟩
      rw [← hS] at hs
      have HS := Lib.hid hS
      clear hb4 hl4 ht4 h4 hS
      go_wp2_with fail
      refine (st_kept H2.out.1).mono ?_
      rintro e w3 ⟨rfl, rfl⟩
      rw [show (M.sum ({ Z with l := Z.l, T := Z.T } : St).K) = S from HS.out.symm]
      go_wp2_with fail
      refine (trim_any (Z := Z) H2.out.1 (by have := HK.out; omega) HK.out.1).mono ?_
      rintro e w4 ⟨rfl, hh, hk4⟩
      have H4 := Lib.hid (show Sto D w0 w4 a b c P (Z.trim P) Q (k + 1 + 28) ∧ Kept w w4 Q ∧ Bx3 w4 v (.pointer (some ⟨a, 0, none⟩)) (.pointer (some ⟨b, 0, none⟩)) (.pointer (some ⟨c, 0, none⟩)) ∧ w4.cell? ⟨t, 0, none⟩ = some (.int .i64 n) from ⟨hh, H2.out.2.1.trans hk4 (fun _ _ e => e), H2.out.2.2.1.kept hk4 HK.out.2.2.1, hk4.cell_some H2.out.2.2.2 HK.out.2.2.2⟩)
      clear hh hk4 H2 c0 c1 c2
      go_wp2_with fail
      refine (clo10_any H4.out.1 (by have := HK.out; omega) v t n H4.out.2.2.1.c0 H4.out.2.2.2).mono ?_
      rintro e w5 ⟨rfl, hh, hk5⟩
      have H5 := Lib.hid (And.intro hh (H4.out.2.1.trans hk5 (fun _ _ e => e)))
      clear hh hk5 H4
      go_wp2_with fail
      go_ret2
      rw [HW.out]
      exact ⟨rfl, H5.out.1.more (by omega), H5.out.2⟩
  · have HW := Lib.hid (show tw P Z.l Z.K Z.T n = ⟨takeP Z.l n, tkE Z.l n, tkL Z.l n, Z.K, tkT Z.l n Z.T⟩ from by unfold tw; rw [if_neg (fun e => h4 e.1)])
    go_wp2_with fail
    go_ret2
    rw [HW.out]
    exact ⟨rfl, H2.out.1.more (by omega), H2.out.2.1⟩

set_option maxHeartbeats 4000000 in
theorem gfind_any (h : Sto D w0 w a b c P Z Q k) (hk : k ≤ 80000) (hK : ∀ r ∈ M.all Z.K, 0 ≤ r.p) (d n : Int) :
    Calls Try.prog 34 #[gv a b c, .int .i64 d, .int .i64 n] w fun e w' => e = .returned (.tuple #[.int .i64 (fd P Z.l Z.K Z.T d n).p, .int .i64 (fd P Z.l Z.K Z.T d n).e]) ∧ Sto D w0 w' a b c P (Z.of (fd P Z.l Z.K Z.T d n)) Q (k + 30) ∧ Kept w w' Q := by
  obtain ⟨w1, hw1⟩ : ∃ w1, w1 = (w.alloc (.cells #[.pointer (some ⟨a, 0, none⟩), .pointer (some ⟨b, 0, none⟩), .pointer (some ⟨c, 0, none⟩)] 61)).alloc (.cells #[.int .i64 n] 3) := ⟨_, rfl⟩
  have hb0 : Below w.heap.size w (w.alloc (.cells #[.pointer (some ⟨a, 0, none⟩), .pointer (some ⟨b, 0, none⟩), .pointer (some ⟨c, 0, none⟩)] 61)) := (Below.refl _ _).alloc (Nat.le_refl _) _
  have hb1 : Below (w.heap.size + 1) (w.alloc (.cells #[.pointer (some ⟨a, 0, none⟩), .pointer (some ⟨b, 0, none⟩), .pointer (some ⟨c, 0, none⟩)] 61)) w1 := by rw [hw1]; exact (Below.refl _ _).alloc (by simp) _
  have hb : Below w.heap.size w w1 := hb0.trans (hb1.mono (by omega))
  have X1 := Lib.hid (show Bx3 w1 w.heap.size (.pointer (some ⟨a, 0, none⟩)) (.pointer (some ⟨b, 0, none⟩)) (.pointer (some ⟨c, 0, none⟩)) ∧ w1.cell? ⟨w.heap.size + 1, 0, none⟩ = some (.int .i64 n) from ⟨(Bx3.new w 61 _ _ _).below (by simpa using hb1), by rw [hw1, show w.heap.size + 1 = (w.alloc (.cells #[.pointer (some ⟨a, 0, none⟩), .pointer (some ⟨b, 0, none⟩), .pointer (some ⟨c, 0, none⟩)] 61)).heap.size by simp, World.cell?_alloc_mark]; rfl⟩)
  have H1 := Lib.hid (show Sto D w0 w1 a b c P Z Q k ∧ Kept w w1 Q ∧ ¬ Q w.heap.size ∧ ¬ Q (w.heap.size + 1) from ⟨h.below hb, Kept.of_below hb Q, fun e => (by have := h.lt _ e; omega), fun e => (by have := h.lt _ e; omega)⟩)
  have HK := Lib.hid (And.intro hK hk)
  clear h hK hk hb hb0 hb1
  go_enter Try.func34, Try.ntmps34
  go_upto_region 1 with fail
  rw [← hw1]
  generalize w.heap.size + 1 = y at *
  generalize w.heap.size = x at *
  clear hw1
  have c0 := X1.out.1.c0
  have c1 := X1.out.1.c1
  have c2 := X1.out.1.c2
  go_wp2_with fail
  refine (st_pop H1.out.1 d).mono ?_
  rintro e w2 ⟨rfl, hh, hk2⟩
  rcases Bool.eq_false_or_eq_true (M.popB Z.K d) with hp | hp
  · have HW := Lib.hid (fd_yes (P := P) (l := Z.l) (T := Z.T) (n := n) hp)
    rw [hp]
    have H2 := Lib.hid (show Sto D w0 w2 a b c P { Z with K := M.popF Z.K d } Q k ∧ Kept w w2 Q from ⟨hh, H1.out.2.1.trans hk2 (fun _ _ e => e)⟩)
    clear hh hk2 hp
    go_wp2_with fail
    go_ret2
    rw [HW.out]
    exact ⟨rfl, H2.out.1.more (by omega), H2.out.2⟩
  · have HW := Lib.hid (fd_no (P := P) (l := Z.l) (T := Z.T) (n := n) hp)
    rw [M.popF_no _ _ hp] at hh
    rw [hp]
    have H2 := Lib.hid (show Sto D w0 w2 a b c P Z Q k ∧ Kept w w2 Q ∧ Bx3 w2 x (.pointer (some ⟨a, 0, none⟩)) (.pointer (some ⟨b, 0, none⟩)) (.pointer (some ⟨c, 0, none⟩)) ∧ w2.cell? ⟨y, 0, none⟩ = some (.int .i64 n) from ⟨hh, H1.out.2.1.trans hk2 (fun _ _ e => e), X1.out.1.kept hk2 H1.out.2.2.1, hk2.cell_some X1.out.2 H1.out.2.2.2⟩)
    have d0 := H2.out.2.2.1.c0
    have d1 := H2.out.2.2.1.c1
    have d2 := H2.out.2.2.1.c2
    clear hh hk2 hp c0 c1 c2
    go_wp2_with fail
    refine (twice_any H2.out.1 HK.out.2 HK.out.1 x y n H2.out.2.2.1 H2.out.2.2.2 H1.out.2.2.1 H1.out.2.2.2).mono ?_
    rintro e w3 ⟨rfl, hh, hk3⟩
    have H3 := Lib.hid (And.intro hh (H2.out.2.1.trans hk3 (fun _ _ e => e)))
    clear hh hk3 d0 d1 d2
    go_wp2_with fail
    go_ret2
    rw [HW.out]
    exact ⟨rfl, H3.out⟩
end
end Go.Proofs.Ytmagdhcpbofkbaa
/-
  A Store, by the program: New, parts, Space, Free, Runs, Cached, Trim, Get.
-/
namespace Go.Proofs.Ytmagdhcpbofkbaa
open Go.ChangeShapes Go.WideShapes Go.ChangeAt Go.RowKit Go.Deep
set_option linter.unusedVariables false
set_option maxRecDepth 20000

/-- A Store that a call made, beside what it was handed. -/
structure Chk (D : Nat → Prop) (w0 w : World) (s a b c P : Nat) (Z : St) (Q : Nat → Prop) (k : Nat) : Prop where
  st : Sto D w0 w a b c P Z Q k
  bx : Bx3 w s (.pointer (some ⟨a, 0, none⟩)) (.pointer (some ⟨b, 0, none⟩)) (.pointer (some ⟨c, 0, none⟩))
  no : ¬ Q s
section
variable {w0 w w' : World} {s a b c P : Nat} {Z Z' : St} {Q Q' D : Nat → Prop} {k k' : Nat}
theorem Chk.below (h : Chk D w0 w s a b c P Z Q k) (hb : Below w.heap.size w w') : Chk D w0 w' s a b c P Z Q k := ⟨h.st.below hb, h.bx.below hb, h.no⟩
theorem Chk.drew (h : Chk D w0 w s a b c P Z Q k) : Chk D w0 w.drew s a b c P Z Q k := h.below (Below.refl _ _).drew
theorem Chk.alloc (h : Chk D w0 w s a b c P Z Q k) (o : Obj) : Chk D w0 (w.alloc o) s a b c P Z Q k := h.below ((Below.refl _ _).alloc (Nat.le_refl _) _)
theorem Chk.more (h : Chk D w0 w s a b c P Z Q k) (hk : k ≤ k') : Chk D w0 w s a b c P Z Q k' := ⟨h.st.more hk, h.bx, h.no⟩
theorem Chk.bel (h : Chk D w0 w s a b c P Z Q k) : Below w0.heap.size w0 w := h.st.bel
/-- .. behind a call upon it. -/
theorem Chk.next (h : Chk D w0 w s a b c P Z Q k) (hs : Sto D w0 w' a b c P Z' Q' k') (hk : Kept w w' Q) (hq : ∀ x, Q' x → Q x ∨ w.heap.size ≤ x) : Chk D w0 w' s a b c P Z' (Wid Q w w') k' :=
  ⟨hs.wid h.st.bel hk.size h.st.qlo hq, h.bx.kept hk h.no, fun e => e.elim h.no (fun e => by have := h.bx.lt; omega)⟩
/-- A block that is not the Store's, behind a call. -/
theorem Chk.off (h : Chk D w0 w s a b c P Z Q k) {x : Nat} (hx : x < w.heap.size) (hq : ¬ Q x) : ¬ Wid Q w w' x := fun e => e.elim hq (fun e => by omega)
end
/-- A Store without chunks. -/
def St.new (P : Nat) : St := ⟨[⟨0, P⟩], 0, M.empty, 0, fun _ => 0⟩
section
variable {w0 w : World} {s a b c P : Nat} {Z : St} {Q D : Nat → Prop} {k : Nat}
set_option maxHeartbeats 4000000 in
theorem cnew_any (h : Below w0.heap.size w0 w) (x : Int) (P : Nat) (hP : (P : Int) = min (max x 1) 1048576) :
    Calls Try.prog 7 #[.int .i64 x] w fun e w' => ∃ s a b c Q, e = .returned (.pointer (some ⟨s, 0, none⟩)) ∧ Chk (fun _ => False) w0 w' s a b c P (St.new P) Q 0 ∧ Below w.heap.size w w' ∧ (∀ x, Q x → w.heap.size ≤ x) ∧ w.heap.size ≤ s := by
  have H0 := Lib.hid (And.intro h hP)
  clear h hP
  go_enter Try.func7, Try.ntmps7
  go_wp2_with fail
  refine (s_new H0.out.1 x (P : Int) H0.out.2).mono ?_
  rintro e w1 ⟨a, rfl, hA, b1, ha⟩
  have H1 := Lib.hid (And.intro hA (And.intro b1 ha))
  clear hA b1 ha
  go_wp2_with fail
  refine (at_new (Below.refl w1.heap.size w1) x P H0.out.2).mono ?_
  rintro e w2 ⟨b, O, rfl, hB⟩
  have H2 := Lib.hid hB
  clear hB
  go_wp2_with fail
  refine (k_new (below_call H1.out.1.bel H2.out.bel)).mono ?_
  rintro e w3 ⟨c, rfl, hC, b3, hc⟩
  have H3 := Lib.hid (And.intro hC (And.intro b3 hc))
  clear hC b3 hc
  go_wp2_with fail
  go_ret
  have hA := H1.out.1
  have b1 := H1.out.2.1
  have ha := H1.out.2.2
  have hB := H2.out
  have b2 := H2.out.bel
  have hC := H3.out.1
  have b3 := H3.out.2.1
  have hc := H3.out.2.2
  have b4 := (Below.refl w3.heap.size w3).alloc (Nat.le_refl _) (.cells #[.pointer (some ⟨a, 0, none⟩), .pointer (some ⟨b, 0, none⟩), .pointer (some ⟨c, 0, none⟩)] 63)
  have hbx := Bx3.new w3 63 (.pointer (some ⟨a, 0, none⟩)) (.pointer (some ⟨b, 0, none⟩)) (.pointer (some ⟨c, 0, none⟩))
  have hal := hA.has.lt
  have hcl := hC.has.lt
  have s1 := b1.size
  have s2 := b2.size
  have s3 := b3.size
  have hOl : ∀ x, O x → w1.heap.size ≤ x ∧ x < w2.heap.size := fun x hx => ⟨hB.old x hx, hB.sp.lt hx⟩
  have ne : (St.new P).l ≠ [] := by simp [St.new]
  have e1 : w3.cell? ⟨a, 1, none⟩ = w1.cell? ⟨a, 1, none⟩ := (b3.cell (p := ⟨a, 1, none⟩) (Nat.lt_of_lt_of_le hal s2)).trans (b2.cell (p := ⟨a, 1, none⟩) hal)
  have hsto : Sto (fun _ => False) w0 w3 a b c P (St.new P) (fun x => O x ∨ x = a ∨ x = c) 0 := by
    refine ⟨(hA.below b2).below b3, ⟨O, ⟨hB.sp.below b3, below_call (below_call hA.bel b2) b3, fun x hx => Nat.le_trans (Nat.le_trans H0.out.1.size s1) (hOl x hx).1⟩, fun x hx => .inl hx, fun e => ?_, fun e => ?_, fun _ x hx => (Apt.new hA.has (by simp) (hOl x hx).1).same e1⟩, hC, .inr (.inl rfl), .inr (.inr rfl), by omega, fun _ => (Apt.new hA.has (by simp) (by omega)).same e1, fun x hx => ?_, fun x hx => ?_, fun _ x hx => hx.elim, fun x hx => hx.elim⟩
    · have := hOl a e; omega
    · have := hOl c e; omega
    · rcases hx with hx | rfl | rfl
      · have := hOl x hx; omega
      · omega
      · exact hcl
    · have := H0.out.1.size
      rcases hx with hx | rfl | rfl
      · have := hOl x hx; omega
      · omega
      · omega
  refine ⟨_, a, b, c, _, rfl, ⟨hsto.below b4, hbx, fun e => ?_⟩, below_call (below_call (below_call b1 b2) b3) b4, fun x hx => ?_, by omega⟩
  · have := hsto.lt _ e; omega
  · rcases hx with hx | rfl | rfl
    · have := hOl x hx; omega
    · omega
    · omega

theorem Bx3.set {w : World} {g : Nat} {v0 v1 v2 : Value} (h : Bx3 w g v0 v1 v2) (u0 u1 u2 : Value) : Bx3 (((w.setCell ⟨g, 0, none⟩ u0).setCell ⟨g, 1, none⟩ u1).setCell ⟨g, 2, none⟩ u2) g u0 u1 u2 := by
  refine ⟨?_, ?_, ?_⟩
  · rw [World.cell?_setCell_other _ _ _ _ (by simp), World.cell?_setCell_other _ _ _ _ (by simp)]
    exact World.cell?_setCell_same _ _ _ h.c0
  · rw [World.cell?_setCell_other _ _ _ _ (by simp)]
    refine World.cell?_setCell_same _ _ _ (show World.cell? _ _ = some v1 from ?_)
    rw [World.cell?_setCell_other _ _ _ _ (by simp)]
    exact h.c1
  · refine World.cell?_setCell_same _ _ _ (show World.cell? _ _ = some v2 from ?_)
    rw [World.cell?_setCell_other _ _ _ _ (by simp), World.cell?_setCell_other _ _ _ _ (by simp)]
    exact h.c2
theorem set3_below {B g : Nat} {a w : World} (h : Below B a w) (hg : B ≤ g) (u0 u1 u2 : Value) : Below B a (((w.setCell ⟨g, 0, none⟩ u0).setCell ⟨g, 1, none⟩ u1).setCell ⟨g, 2, none⟩ u2) :=
  ((h.setCell (p := ⟨g, 0, none⟩) hg u0).setCell (p := ⟨g, 1, none⟩) hg u1).setCell (p := ⟨g, 2, none⟩) hg u2
set_option maxHeartbeats 4000000 in
theorem parts_any (hx : Bx3 w s (.pointer (some ⟨a, 0, none⟩)) (.pointer (some ⟨b, 0, none⟩)) (.pointer (some ⟨c, 0, none⟩))) :
    Calls Try.prog 29 #[.pointer (some ⟨s, 0, none⟩)] w fun e w' => e = .returned (.agg #[.pointer (some ⟨a, 0, none⟩), .pointer (some ⟨b, 0, none⟩), .pointer (some ⟨c, 0, none⟩)]) ∧ Below w.heap.size w w' := by
  have b1 := (Below.refl w.heap.size w).alloc (Nat.le_refl _) (.cells #[.pointer none, .pointer none, .pointer none] 61)
  have X1 := Lib.hid (hx.below b1)
  have V1 := Lib.hid (Bx3.new w 61 (.pointer none) (.pointer none) (.pointer none))
  have F1 : ∀ j, (w.alloc (.cells #[.pointer none, .pointer none, .pointer none] 61)).frozen? ⟨w.heap.size, j, none⟩ = false := fun j => by rw [World.frozen?_alloc_mark]; simp
  obtain ⟨w1, hw1⟩ : ∃ w1, w1 = w.alloc (.cells #[.pointer none, .pointer none, .pointer none] 61) := ⟨_, rfl⟩
  rw [← hw1] at X1 V1 b1 F1
  have f0 := F1 0
  have f1 := F1 1
  have f2 := F1 2
  clear F1
  have B1 := Lib.hid b1
  clear hx b1
  go_enter Try.func29, Try.ntmps29
  go_upto_region 1 with fail
  rw [← hw1]
  have c0 := X1.out.c0
  have c1 := X1.out.c1
  have c2 := X1.out.c2
  have d0 := V1.out.c0
  have d1 := V1.out.c1
  have d2 := V1.out.c2
  clear hw1
  go_wp2_with fail
  have ts := V1.out.set (.pointer (some ⟨a, 0, none⟩)) (.pointer (some ⟨b, 0, none⟩)) (.pointer (some ⟨c, 0, none⟩))
  refine bodyPost_ret (v := (.agg #[.pointer (some ⟨a, 0, none⟩), .pointer (some ⟨b, 0, none⟩), .pointer (some ⟨c, 0, none⟩)])) ?_ rfl ?_
  · simp [results, go_sem, ts.c0, ts.c1, ts.c2]
  · exact ⟨rfl, set3_below B1.out (Nat.le_refl _) _ _ _⟩

theorem field0 (a b c : Nat) (W : World) : (Instr.field 61 (.agg #[.pointer (some ⟨a, 0, none⟩), .pointer (some ⟨b, 0, none⟩), .pointer (some ⟨c, 0, none⟩)]) 0).run Try.prog W = .ok (.pointer (some ⟨a, 0, none⟩)) W := by kernel_rfl
theorem field1 (a b c : Nat) (W : World) : (Instr.field 61 (.agg #[.pointer (some ⟨a, 0, none⟩), .pointer (some ⟨b, 0, none⟩), .pointer (some ⟨c, 0, none⟩)]) 1).run Try.prog W = .ok (.pointer (some ⟨b, 0, none⟩)) W := by kernel_rfl
theorem field2 (a b c : Nat) (W : World) : (Instr.field 61 (.agg #[.pointer (some ⟨a, 0, none⟩), .pointer (some ⟨b, 0, none⟩), .pointer (some ⟨c, 0, none⟩)]) 2).run Try.prog W = .ok (.pointer (some ⟨c, 0, none⟩)) W := by kernel_rfl
set_option maxHeartbeats 4000000 in
theorem cspace_any (h : Chk D w0 w s a b c P Z Q k) :
    Calls Try.prog 15 #[.pointer (some ⟨s, 0, none⟩)] w fun e w' => e = .returned (.pointer (some ⟨b, 0, none⟩)) ∧ Below w.heap.size w w' := by
  have HP := Lib.hid (parts_any h.bx)
  clear h
  go_enter Try.func15, Try.ntmps15
  go_wp2_with fail
  refine HP.out.mono ?_
  rintro e w1 ⟨rfl, hb⟩
  have HB := Lib.hid hb
  clear hb
  have hf := field1 a b c w1
  go_wp2_with fail
  go_ret
  exact ⟨rfl, HB.out⟩
set_option maxHeartbeats 4000000 in
theorem cruns_any (h : Chk D w0 w s a b c P Z Q k) :
    Calls Try.prog 20 #[.pointer (some ⟨s, 0, none⟩)] w (GotR w Z.l) := by
  have H := Lib.hid h
  have HP := Lib.hid (parts_any h.bx)
  clear h
  go_enter Try.func20, Try.ntmps20
  go_wp2_with fail
  refine HP.out.mono ?_
  rintro e w1 ⟨rfl, hb⟩
  have HB := Lib.hid hb
  clear hb
  have hf := field0 a b c w1
  go_wp2_with fail
  refine (st_runs (H.out.st.below HB.out)).mono ?_
  rintro e w2 ⟨A, t, c', rfl, ht, hR, hb⟩
  have H2 := Lib.hid (And.intro ht (And.intro hR (below_call HB.out hb)))
  clear ht hR hb
  go_wp2_with fail
  go_ret
  exact ⟨A, t, c', rfl, H2.out⟩
set_option maxHeartbeats 4000000 in
theorem ctrim_any (h : Chk D w0 w s a b c P Z Q k) (hk : k ≤ 90000) (hK : ∀ r ∈ M.all Z.K, 0 ≤ r.p) :
    Calls Try.prog 19 #[.pointer (some ⟨s, 0, none⟩)] w fun e w' => e = .returned (.int .i64 (M.sum Z.K)) ∧ Chk D w0 w' s a b c P (Z.trim P) (Wid Q w w') (k + 28) ∧ Kept w w' Q := by
  have H := Lib.hid h
  have HP := Lib.hid (parts_any h.bx)
  have HK := Lib.hid (And.intro hk hK)
  clear h hk hK
  go_enter Try.func19, Try.ntmps19
  go_wp2_with fail
  refine HP.out.mono ?_
  rintro e w1 ⟨rfl, hb⟩
  have HB := Lib.hid hb
  clear hb
  go_wp2_with fail
  refine (trim_any (H.out.st.below HB.out) HK.out.1 HK.out.2).mono ?_
  rintro e w2 ⟨rfl, hs, hk⟩
  have hk' := (Kept.of_below HB.out Q).trans hk (fun _ _ e => e)
  have H2 := Lib.hid (And.intro (H.out.next hs hk' (fun x e => .inl e)) hk')
  clear hs hk hk'
  go_wp2_with fail
  go_ret
  exact ⟨rfl, H2.out⟩
end
end Go.Proofs.Ytmagdhcpbofkbaa
/-
  A Store, by the program: Get.
-/
namespace Go.Proofs.Ytmagdhcpbofkbaa
open Go.ChangeShapes Go.WideShapes Go.ChangeAt Go.RowKit Go.Deep
set_option linter.unusedVariables false
set_option maxRecDepth 20000

/-- What holds of a Store: each page is in a free run, in a chunk that is kept, or in one of those that were got, which have their headers. -/
structure Inv (P : Nat) (Z : St) (G : List M.R) : Prop where
  good : M.Good Z.K
  pt : Pt P Z.l (M.all Z.K ++ G)
  hd : ∀ r ∈ G, ∃ k o n, Stands Z.f r.p.toNat r.n.toNat k o n
theorem Inv.low {P : Nat} {Z : St} {G : List M.R} (h : Inv P Z G) : ∀ r ∈ M.all Z.K, 0 ≤ r.p := fun r hr => (h.pt.inn (List.mem_append.2 (.inl hr))).1
theorem Inv.new (P : Nat) (h : 1 ≤ P) : Inv P (St.new P) [] := ⟨M.Good.empty, Pt.new P (by omega), fun r hr => by cases hr⟩
theorem Inv.in {P : Nat} {Z : St} {G : List M.R} (h : Inv P Z G) {r : M.R} (hr : r ∈ G) : 0 ≤ r.p ∧ 1 ≤ r.n ∧ r.p + r.n ≤ P := h.pt.inn (List.mem_append.2 (.inr hr))
/-- What a Get comes to. -/
def getF (P : Nat) (Z : St) (pages : Int) : Fd := fd P Z.l Z.K Z.T (M.cls pages) (M.ckN pages)
def St.get (P : Nat) (Z : St) (pages kind : Int) (o : Nat) : St :=
  if (getF P Z pages).e = 0 then ⟨(getF P Z pages).l, (getF P Z pages).T, (getF P Z pages).K, Z.u + 1, M.wr Z.f ((getF P Z pages).p.toNat * 4096) (M.hd (M.ckN pages).toNat kind.toNat o 0)⟩ else Z.of (getF P Z pages)
def getP (P : Nat) (Z : St) (pages : Int) : Int := if (getF P Z pages).e = 0 then (getF P Z pages).p else 0
def getN (P : Nat) (Z : St) (pages : Int) : Int := if (getF P Z pages).e = 0 then M.ckN pages else 0
theorem get_pt {P : Nat} {Z : St} {G : List M.R} (h : Inv P Z G) {pages : Int} (h1 : 1 ≤ pages) (h2 : pages ≤ 1048576) :
    M.Good (getF P Z pages).K ∧ (((getF P Z pages).e = 0 ∧ Pt P (getF P Z pages).l (⟨(getF P Z pages).p, M.ckN pages⟩ :: (M.all (getF P Z pages).K ++ G))) ∨
    ((getF P Z pages).e = 4 ∧ Pt P (getF P Z pages).l (M.all (getF P Z pages).K ++ G) ∧ M.all (getF P Z pages).K = [] ∧ takeB (getF P Z pages).l (M.ckN pages) = false)) := by
  have hn := M.ckN_ge h1 h2
  exact fd_pt Z.T h.good h.pt (by omega) (M.ckN_pop h.good)
section
variable {w0 w : World} {s a b c P : Nat} {Z : St} {Q D : Nat → Prop} {k : Nat} {G : List M.R}
set_option maxHeartbeats 8000000 in
theorem cget_any (h : Chk D w0 w s a b c P Z Q k) (hk : k ≤ 80000) (hu : Z.u ≤ 900000000000) (hi : Inv P Z G) (pages kind : Int) (o : Nat) (h1 : 1 ≤ pages) (h2 : pages ≤ 1048576) (h3 : 0 ≤ kind) (h4 : kind ≤ 255) (ho : o < 18446744073709551616) :
    Calls Try.prog 24 #[.pointer (some ⟨s, 0, none⟩), .int .i64 pages, .int .i64 kind, .int .u64 (o : Int)] w fun e w' => e = .returned (.tuple #[.int .i64 (getP P Z pages), .int .i64 (getN P Z pages), .int .i64 (getF P Z pages).e]) ∧ Chk D w0 w' s a b c P (Z.get P pages kind o) (Wid Q w w') (k + 30) ∧ Kept w w' Q := by
  have H := Lib.hid h
  have HP := Lib.hid (parts_any h.bx)
  have HI := Lib.hid (And.intro hi.low (And.intro hk hu))
  have hF := get_pt hi h1 h2
  have hN := M.ckN_ge h1 h2
  have hPb := h.st.bounds
  obtain ⟨F, hFe⟩ : ∃ F, F = getF P Z pages := ⟨_, rfl⟩
  obtain ⟨n, hn⟩ : ∃ n, n = M.ckN pages := ⟨_, rfl⟩
  rw [← hFe, ← hn] at hF
  rw [← hn] at hN
  have HF := Lib.hid (And.intro hFe hn)
  have HA := Lib.hid (And.intro h1 (And.intro h2 (And.intro h3 (And.intro h4 ho))))
  obtain ⟨d, hd⟩ : ∃ d, d = M.cls pages := ⟨_, rfl⟩
  have HD := Lib.hid hd
  have HR := Lib.hid (show F = fd P Z.l Z.K Z.T d n from by rw [hFe, hd, hn]; rfl)
  have HC : (0 ≤ d ∧ n = M.pg d) ∨ (d < 0 ∧ n = pages) := by
    rw [hd, hn]
    unfold M.ckN
    by_cases e : 0 ≤ M.cls pages
    · rw [if_pos e]; exact .inl ⟨e, rfl⟩
    · rw [if_neg e]; exact .inr ⟨by omega, rfl⟩
  have t1 : decide (pages < 1) = false := by simp; omega
  have t2 : decide (pages > 1048576) = false := by simp; omega
  have t3 : decide (kind < 0) = false := by simp; omega
  have t4 : decide (kind > 255) = false := by simp; omega
  have HG := Lib.hid hF.2
  have HN := Lib.hid (And.intro hN hPb)
  clear h hk hu hi hF hFe hn hd h1 h2 h3 h4 ho hN hPb
  go_enter Try.func24, Try.ntmps24
  go_wp2_with fail
  refine (class_at pages d rfl HD.out.symm w).mono ?_
  rintro e w1 ⟨rfl, rfl⟩
  rcases HC with ⟨hd, hn⟩ | ⟨hd, hn⟩
  · have HNN := Lib.hid hn
    clear hn
    go_wp2_with fail
    refine (cpages_at d n rfl HNN.out.symm w).mono ?_
    rintro e w1 ⟨rfl, rfl⟩
    go_wp2_with fail
    refine HP.out.mono ?_
    rintro e w1 ⟨rfl, hb⟩
    obtain ⟨w2, hw2⟩ : ∃ w2, w2 = w1.alloc (.cells #[.pointer (some ⟨a, 0, none⟩), .pointer (some ⟨b, 0, none⟩), .pointer (some ⟨c, 0, none⟩)] 61) := ⟨_, rfl⟩
    have hb2 : Below w.heap.size w w2 := by rw [hw2]; exact below_call hb ((Below.refl _ _).alloc (Nat.le_refl _) _)
    have hv : ¬ Q w1.heap.size := fun e => by have := H.out.st.lt _ e; have := hb.size; omega
    have X2 := Lib.hid (show Bx3 w2 w1.heap.size (.pointer (some ⟨a, 0, none⟩)) (.pointer (some ⟨b, 0, none⟩)) (.pointer (some ⟨c, 0, none⟩)) ∧ w.heap.size ≤ w1.heap.size from ⟨by rw [hw2]; exact Bx3.new _ _ _ _ _, hb.size⟩)
    have H2 := Lib.hid (show Sto D w0 w2 a b c P Z Q k ∧ Kept w w2 Q ∧ ¬ Q w1.heap.size from ⟨H.out.st.below hb2, Kept.of_below hb2 Q, hv⟩)
    clear hb hb2 hv
    go_upto_region 7 with fail
    rw [← hw2]
    generalize w1.heap.size = v at *
    clear hw2
    have c0 := X2.out.1.c0
    have c1 := X2.out.1.c1
    have c2 := X2.out.1.c2
    go_wp2_with fail
    refine (gfind_any H2.out.1 HI.out.2.1 HI.out.1 d n).mono ?_
    rintro e w3 ⟨rfl, hh, hk3⟩
    rw [← HR.out] at hh ⊢
    have hX3 := X2.out.1.kept hk3 H2.out.2.2
    have H3 := Lib.hid (show Sto D w0 w3 a b c P (Z.of F) Q (k + 30) ∧ Kept w w3 Q from ⟨hh, H2.out.2.1.trans hk3 (fun _ _ e => e)⟩)
    have d1 := hX3.c1
    clear hh hk3 hX3 c0 c1 c2
    rcases HG.out with ⟨hE, hpt⟩ | ⟨hE, hpt⟩
    · have hin := hpt.inn (List.mem_cons_self ..)
      simp only at hin
      have HQ := Lib.hid (show F.p = (F.p.toNat : Int) ∧ F.p.toNat < P ∧ n = (n.toNat : Int) ∧ kind = (kind.toNat : Int) ∧ M.right (n.toNat : Nat) (kind.toNat : Nat) = true from ⟨by omega, by omega, by omega, by have := HA.out; omega, (M.right_iff _ _).2 (by have := HA.out; have := HN.out; omega)⟩)
      have HE := Lib.hid (show getF P Z pages = F ∧ F.e = 0 from ⟨HF.out.1.symm, hE⟩)
      rw [hE]
      obtain ⟨p, hp⟩ : ∃ p, p = F.p := ⟨_, rfl⟩
      rw [← hp] at HQ ⊢
      have HPP := Lib.hid hp
      clear hpt hin hE hp
      go_wp2_with fail
      refine (st_write H3.out.1 p p.toNat n kind n.toNat kind.toNat o 0 HQ.out.1 HQ.out.2.1 HQ.out.2.2.1 HQ.out.2.2.2.1 HQ.out.2.2.2.2 HA.out.2.2.2.2 (by omega) HI.out.2.2).mono ?_
      rintro e w4 ⟨rfl, hh, hk4⟩
      have hkk := H3.out.2.trans hk4 (fun _ _ e => e)
      have H4 := Lib.hid (show Chk D w0 w4 s a b c P _ (Wid Q w w4) (k + 30) ∧ Kept w w4 Q from ⟨H.out.next hh hkk (fun x e => e.elim .inl (fun e => .inr (Nat.le_trans H3.out.2.size e.1))), hkk⟩)
      clear hh hk4 hkk d1
      go_wp2_with fail
      go_ret3
      have e1 : getP P Z pages = p := by unfold getP; rw [HE.out.1, if_pos HE.out.2, HPP.out]
      have e2 : getN P Z pages = n := by unfold getN; rw [HE.out.1, if_pos HE.out.2, HF.out.2]
      have e3 : Z.get P pages kind o = { Z.of F with u := (Z.of F).u + 1, f := M.wr (Z.of F).f (p.toNat * 4096) (M.hd n.toNat kind.toNat o 0) } := by
        unfold St.get
        rw [HE.out.1, if_pos HE.out.2, ← HF.out.2, ← HPP.out]
        rfl
      rw [e1, e2, e3, HE.out.1, HE.out.2]
      exact ⟨rfl, H4.out⟩
    · have HE := Lib.hid (show getF P Z pages = F ∧ F.e = 4 from ⟨HF.out.1.symm, hE⟩)
      rw [hE]
      clear hpt hE
      go_wp2_with fail
      go_ret3
      have e1 : getP P Z pages = 0 := by unfold getP; rw [HE.out.1, if_neg (by rw [HE.out.2]; omega)]
      have e2 : getN P Z pages = 0 := by unfold getN; rw [HE.out.1, if_neg (by rw [HE.out.2]; omega)]
      have e3 : Z.get P pages kind o = Z.of F := by unfold St.get; rw [HE.out.1, if_neg (by rw [HE.out.2]; omega)]
      rw [e1, e2, e3, HE.out.1, HE.out.2]
      exact ⟨rfl, H.out.next H3.out.1 H3.out.2 (fun x e => .inl e), H3.out.2⟩
  · have hnd : decide (0 ≤ d) = false := by simp; omega
    rw [← hn]
    clear hn
    go_wp2_with fail
    refine HP.out.mono ?_
    rintro e w1 ⟨rfl, hb⟩
    obtain ⟨w2, hw2⟩ : ∃ w2, w2 = w1.alloc (.cells #[.pointer (some ⟨a, 0, none⟩), .pointer (some ⟨b, 0, none⟩), .pointer (some ⟨c, 0, none⟩)] 61) := ⟨_, rfl⟩
    have hb2 : Below w.heap.size w w2 := by rw [hw2]; exact below_call hb ((Below.refl _ _).alloc (Nat.le_refl _) _)
    have hv : ¬ Q w1.heap.size := fun e => by have := H.out.st.lt _ e; have := hb.size; omega
    have X2 := Lib.hid (show Bx3 w2 w1.heap.size (.pointer (some ⟨a, 0, none⟩)) (.pointer (some ⟨b, 0, none⟩)) (.pointer (some ⟨c, 0, none⟩)) ∧ w.heap.size ≤ w1.heap.size from ⟨by rw [hw2]; exact Bx3.new _ _ _ _ _, hb.size⟩)
    have H2 := Lib.hid (show Sto D w0 w2 a b c P Z Q k ∧ Kept w w2 Q ∧ ¬ Q w1.heap.size from ⟨H.out.st.below hb2, Kept.of_below hb2 Q, hv⟩)
    clear hb hb2 hv
    go_upto_region 7 with fail
    rw [← hw2]
    generalize w1.heap.size = v at *
    clear hw2
    have c0 := X2.out.1.c0
    have c1 := X2.out.1.c1
    have c2 := X2.out.1.c2
    go_wp2_with fail
    refine (gfind_any H2.out.1 HI.out.2.1 HI.out.1 d n).mono ?_
    rintro e w3 ⟨rfl, hh, hk3⟩
    rw [← HR.out] at hh ⊢
    have hX3 := X2.out.1.kept hk3 H2.out.2.2
    have H3 := Lib.hid (show Sto D w0 w3 a b c P (Z.of F) Q (k + 30) ∧ Kept w w3 Q from ⟨hh, H2.out.2.1.trans hk3 (fun _ _ e => e)⟩)
    have d1 := hX3.c1
    clear hh hk3 hX3 c0 c1 c2
    rcases HG.out with ⟨hE, hpt⟩ | ⟨hE, hpt⟩
    · have hin := hpt.inn (List.mem_cons_self ..)
      simp only at hin
      have HQ := Lib.hid (show F.p = (F.p.toNat : Int) ∧ F.p.toNat < P ∧ n = (n.toNat : Int) ∧ kind = (kind.toNat : Int) ∧ M.right (n.toNat : Nat) (kind.toNat : Nat) = true from ⟨by omega, by omega, by omega, by have := HA.out; omega, (M.right_iff _ _).2 (by have := HA.out; have := HN.out; omega)⟩)
      have HE := Lib.hid (show getF P Z pages = F ∧ F.e = 0 from ⟨HF.out.1.symm, hE⟩)
      rw [hE]
      obtain ⟨p, hp⟩ : ∃ p, p = F.p := ⟨_, rfl⟩
      rw [← hp] at HQ ⊢
      have HPP := Lib.hid hp
      clear hpt hin hE hp
      go_wp2_with fail
      refine (st_write H3.out.1 p p.toNat n kind n.toNat kind.toNat o 0 HQ.out.1 HQ.out.2.1 HQ.out.2.2.1 HQ.out.2.2.2.1 HQ.out.2.2.2.2 HA.out.2.2.2.2 (by omega) HI.out.2.2).mono ?_
      rintro e w4 ⟨rfl, hh, hk4⟩
      have hkk := H3.out.2.trans hk4 (fun _ _ e => e)
      have H4 := Lib.hid (show Chk D w0 w4 s a b c P _ (Wid Q w w4) (k + 30) ∧ Kept w w4 Q from ⟨H.out.next hh hkk (fun x e => e.elim .inl (fun e => .inr (Nat.le_trans H3.out.2.size e.1))), hkk⟩)
      clear hh hk4 hkk d1
      go_wp2_with fail
      go_ret3
      have e1 : getP P Z pages = p := by unfold getP; rw [HE.out.1, if_pos HE.out.2, HPP.out]
      have e2 : getN P Z pages = n := by unfold getN; rw [HE.out.1, if_pos HE.out.2, HF.out.2]
      have e3 : Z.get P pages kind o = { Z.of F with u := (Z.of F).u + 1, f := M.wr (Z.of F).f (p.toNat * 4096) (M.hd n.toNat kind.toNat o 0) } := by
        unfold St.get
        rw [HE.out.1, if_pos HE.out.2, ← HF.out.2, ← HPP.out]
        rfl
      rw [e1, e2, e3, HE.out.1, HE.out.2]
      exact ⟨rfl, H4.out⟩
    · have HE := Lib.hid (show getF P Z pages = F ∧ F.e = 4 from ⟨HF.out.1.symm, hE⟩)
      rw [hE]
      clear hpt hE
      go_wp2_with fail
      go_ret3
      have e1 : getP P Z pages = 0 := by unfold getP; rw [HE.out.1, if_neg (by rw [HE.out.2]; omega)]
      have e2 : getN P Z pages = 0 := by unfold getN; rw [HE.out.1, if_neg (by rw [HE.out.2]; omega)]
      have e3 : Z.get P pages kind o = Z.of F := by unfold St.get; rw [HE.out.1, if_neg (by rw [HE.out.2]; omega)]
      rw [e1, e2, e3, HE.out.1, HE.out.2]
      exact ⟨rfl, H.out.next H3.out.1 H3.out.2 (fun x e => .inl e), H3.out.2⟩
end
end Go.Proofs.Ytmagdhcpbofkbaa
/-
  A Store, by the program: Get of what may not be.
-/
namespace Go.Proofs.Ytmagdhcpbofkbaa
open Go.ChangeShapes Go.WideShapes Go.ChangeAt Go.RowKit Go.Deep
set_option linter.unusedVariables false
set_option maxRecDepth 20000

theorem Kept.grow {w w1 w2 : World} {Q Q' : Nat → Prop} (h : Kept w w1 Q) (g : Kept w1 w2 Q') (hq : ∀ x, Q' x → Q x ∨ w.heap.size ≤ x) : Kept w w2 Q := h.trans g (fun i hi e => (hq i e).resolve_right (by omega))
/-- Whether a Get may be. -/
def getB (pages kind : Int) : Bool := decide (1 ≤ pages) && (decide (pages ≤ 1048576) && (decide (0 ≤ kind) && decide (kind ≤ 255)))
theorem getB_iff (pages kind : Int) : getB pages kind = true ↔ 1 ≤ pages ∧ pages ≤ 1048576 ∧ 0 ≤ kind ∧ kind ≤ 255 := by simp [getB]
set_option maxHeartbeats 4000000 in
theorem chget_bad (w : World) (A : Option Addr) (pages kind o : Int) (h : getB pages kind = false) :
    Calls Try.prog 24 #[.pointer A, .int .i64 pages, .int .i64 kind, .int .u64 o] w fun e w' => e = .returned (.tuple #[.int .i64 0, .int .i64 0, .int .i64 1]) ∧ Below w.heap.size w w' := by
  have hn : ¬ (1 ≤ pages ∧ pages ≤ 1048576 ∧ 0 ≤ kind ∧ kind ≤ 255) := by rw [← getB_iff, h]; simp
  clear h
  rcases Classical.em (pages < 1) with e1 | e1
  · have t1 : decide (pages < 1) = true := by simpa using e1
    clear e1 hn
    go_enter Try.func24, Try.ntmps24
    go_wp2_with fail
    go_ret3
    exact ⟨rfl, Below.refl _ _⟩
  · have t1 : decide (pages < 1) = false := by simpa using e1
    rcases Classical.em (pages > 1048576) with e2 | e2
    · have t2 : decide (pages > 1048576) = true := by simpa using e2
      clear e1 e2 hn
      go_enter Try.func24, Try.ntmps24
      go_wp2_with fail
      go_ret3
      exact ⟨rfl, Below.refl _ _⟩
    · have t2 : decide (pages > 1048576) = false := by simpa using e2
      rcases Classical.em (kind < 0) with e3 | e3
      · have t3 : decide (kind < 0) = true := by simpa using e3
        clear e1 e2 e3 hn
        go_enter Try.func24, Try.ntmps24
        go_wp2_with fail
        go_ret3
        exact ⟨rfl, Below.refl _ _⟩
      · have t3 : decide (kind < 0) = false := by simpa using e3
        have t4 : decide (kind > 255) = true := by simp; omega
        clear e1 e2 e3 hn
        go_enter Try.func24, Try.ntmps24
        go_wp2_with fail
        go_ret3
        exact ⟨rfl, Below.refl _ _⟩
end Go.Proofs.Ytmagdhcpbofkbaa
/-
  A Store, by the program: Put of a chunk that was got; Free.
-/
namespace Go.Proofs.Ytmagdhcpbofkbaa
open Go.ChangeShapes Go.WideShapes Go.ChangeAt Go.RowKit Go.Deep
set_option linter.unusedVariables false
set_option maxRecDepth 20000

/-- What a Put comes to. -/
def St.put (P : Nat) (Z : St) (p n : Int) : St := ⟨ptL P Z.l Z.K p n, ptT P Z.l Z.K p n Z.T, ptKy Z.K p n, Z.u + 3, M.zr Z.f (p.toNat * 4096) 32⟩
section
variable {w0 w : World} {s a b c P : Nat} {Z : St} {Q D : Nat → Prop} {k : Nat} {G : List M.R}
set_option maxHeartbeats 8000000 in
theorem cput_any (h : Chk D w0 w s a b c P Z Q k) (hk : k ≤ 80000) (hu : Z.u ≤ 700000000000) (p n : Int) (hi : Inv P Z (⟨p, n⟩ :: G)) :
    Calls Try.prog 27 #[.pointer (some ⟨s, 0, none⟩), .int .i64 p] w fun e w' => e = .returned (.int .i64 0) ∧ Chk D w0 w' s a b c P (Z.put P p n) (Wid Q w w') (k + 1) ∧ Kept w w' Q := by
  have H := Lib.hid h
  have HP := Lib.hid (parts_any h.bx)
  obtain ⟨kd, ow, nx, hS⟩ := hi.hd _ (List.mem_cons_self ..)
  have hin := hi.in (List.mem_cons_self ..)
  simp only at hS hin
  have HS := Lib.hid (And.intro hS (And.intro (show p = (p.toNat : Int) ∧ p.toNat < P ∧ n = (n.toNat : Int) ∧ 0 ≤ p by have := h.st.bounds; omega) (And.intro hk hu)))
  have HPT := Lib.hid (pt_pt hi.good (show Pt P Z.l (⟨p, n⟩ :: (M.all Z.K ++ G)) from hi.pt.perm List.perm_middle))
  clear h hk hu hi hS hin
  go_enter Try.func27, Try.ntmps27
  go_wp2_with fail
  refine HP.out.mono ?_
  rintro e w1 ⟨rfl, hb⟩
  obtain ⟨w2, hw2⟩ : ∃ w2, w2 = w1.alloc (.cells #[.pointer (some ⟨a, 0, none⟩), .pointer (some ⟨b, 0, none⟩), .pointer (some ⟨c, 0, none⟩)] 61) := ⟨_, rfl⟩
  have hb2 : Below w.heap.size w w2 := by rw [hw2]; exact below_call hb ((Below.refl _ _).alloc (Nat.le_refl _) _)
  have hv : ¬ Q w1.heap.size := fun e => by have := H.out.st.lt _ e; have := hb.size; omega
  have X2 := Lib.hid (show Bx3 w2 w1.heap.size (.pointer (some ⟨a, 0, none⟩)) (.pointer (some ⟨b, 0, none⟩)) (.pointer (some ⟨c, 0, none⟩)) from by rw [hw2]; exact Bx3.new _ _ _ _ _)
  have H2 := Lib.hid (show Sto D w0 w2 a b c P Z Q k ∧ Kept w w2 Q ∧ ¬ Q w1.heap.size from ⟨H.out.st.below hb2, Kept.of_below hb2 Q, hv⟩)
  clear hb hb2 hv
  go_upto_region 2 with fail
  rw [← hw2]
  generalize w1.heap.size = v at *
  clear hw2
  have c0 := X2.out.c0
  have c1 := X2.out.c1
  have c2 := X2.out.c2
  go_wp2_with fail
  refine (st_read H2.out.1 p p.toNat n.toNat kd ow nx HS.out.2.1.1 HS.out.2.1.2.1 HS.out.1 (by have := HS.out.2.2; omega)).mono ?_
  rintro e w3 ⟨rfl, hh, hk3⟩
  rw [← HS.out.2.1.2.2.1]
  obtain ⟨w4, hw4⟩ : ∃ w4, w4 = w3.alloc (.cells #[.int .i64 n, .int .i64 (kd : Int), .int .u64 (ow : Int), .int .u64 (nx : Int)] 41) := ⟨_, rfl⟩
  have hb4 : Below w3.heap.size w3 w4 := by rw [hw4]; exact (Below.refl _ _).alloc (Nat.le_refl _) _
  have Y4 := Lib.hid (show Box4 w4 w3.heap.size (.int .i64 n) (.int .i64 (kd : Int)) (.int .u64 (ow : Int)) (.int .u64 (nx : Int)) ∧ v < w3.heap.size from ⟨by rw [hw4]; exact Box4.new _ _ _ _ _ _, Nat.lt_of_lt_of_le X2.out.lt hk3.size⟩)
  have H4 := Lib.hid (show Sto D w0 w4 a b c P { Z with u := Z.u + 1 } (Wid Q w2 w3) k ∧ Kept w w4 Q ∧ Bx3 w4 v (.pointer (some ⟨a, 0, none⟩)) (.pointer (some ⟨b, 0, none⟩)) (.pointer (some ⟨c, 0, none⟩)) ∧ ¬ Wid Q w2 w3 v ∧ ¬ Wid Q w2 w3 w3.heap.size ∧ (∀ x, Wid Q w2 w3 x → Q x ∨ w.heap.size ≤ x) from
    ⟨hh.below hb4, (H2.out.2.1.trans hk3 (fun _ _ e => e)).trans (Kept.of_below hb4 Q) (fun _ _ e => e), (X2.out.kept hk3 H2.out.2.2).below hb4, fun e => e.elim H2.out.2.2 (fun e => by have := X2.out.lt; omega), fun e => by have := hh.lt _ e; omega, fun x e => e.imp id (fun e => Nat.le_trans H2.out.2.1.size e.1)⟩)
  clear hh hk3 hb4 c0 c1 c2
  go_upto_region 3 with fail
  rw [← hw4]
  generalize w3.heap.size = y at *
  clear hw4
  generalize Wid Q w2 w3 = Q4 at *
  have c0 := H4.out.2.2.1.c0
  have c1 := H4.out.2.2.1.c1
  have c2 := H4.out.2.2.1.c2
  go_wp2_with fail
  refine (st_wipe H4.out.1 p p.toNat HS.out.2.1.1 HS.out.2.1.2.1 HS.out.1.isH (by have := HS.out.2.2; simp only; omega)).mono ?_
  rintro e w5 ⟨rfl, hh, hk5⟩
  have hy5 := Y4.out.1.kept hk5 H4.out.2.2.2.2.1
  have hv5 := H4.out.2.2.1.kept hk5 H4.out.2.2.2.1
  have hyl := Y4.out.1.lt
  have hvl := H4.out.2.2.1.lt
  have H5 := Lib.hid (show Sto D w0 w5 a b c P { Z with u := Z.u + 3, f := M.zr Z.f (p.toNat * 4096) 32 } (Wid Q4 w4 w5) k ∧ Kept w w5 Q ∧ Bx3 w5 v (.pointer (some ⟨a, 0, none⟩)) (.pointer (some ⟨b, 0, none⟩)) (.pointer (some ⟨c, 0, none⟩)) ∧ Box4 w5 y (.int .i64 n) (.int .i64 (kd : Int)) (.int .u64 (ow : Int)) (.int .u64 (nx : Int)) ∧ ¬ Wid Q4 w4 w5 v ∧ ¬ Wid Q4 w4 w5 y ∧ (∀ x, Wid Q4 w4 w5 x → Q x ∨ w.heap.size ≤ x) from
    ⟨hh, H4.out.2.1.grow hk5 H4.out.2.2.2.2.2, hv5, hy5, fun e => e.elim H4.out.2.2.2.1 (fun e => by omega), fun e => e.elim H4.out.2.2.2.2.1 (fun e => by omega), fun x e => e.elim (H4.out.2.2.2.2.2 x) (fun e => .inr (Nat.le_trans H4.out.2.1.size e.1))⟩)
  clear hh hk5 hy5 hv5 hyl hvl c0 c1 c2
  generalize Wid Q4 w4 w5 = Q5 at *
  obtain ⟨d, hd⟩ : ∃ d, d = M.cls n := ⟨_, rfl⟩
  have HD := Lib.hid hd
  obtain ⟨q, hq⟩ : ∃ q, q = M.pg d := ⟨_, rfl⟩
  have HQ := Lib.hid hq
  clear hd hq
  have e0 := H5.out.2.2.2.1.c0
  have c0 := H5.out.2.2.1.c0
  have c2 := H5.out.2.2.1.c2
  go_wp2_with fail
  refine (class_at n d rfl HD.out.symm w5).mono ?_
  rintro e w6 ⟨rfl, rfl⟩
  by_cases hqn : q = n
  · rw [hqn] at HQ
    have HEQ := Lib.hid hqn
    clear hqn
    go_upto_region 9 with fail
    have H6 := Lib.hid (show Sto D w0 w5.drew a b c P { Z with u := Z.u + 3, f := M.zr Z.f (p.toNat * 4096) 32 } Q5 k ∧ Kept w w5.drew Q ∧ Bx3 w5.drew v (.pointer (some ⟨a, 0, none⟩)) (.pointer (some ⟨b, 0, none⟩)) (.pointer (some ⟨c, 0, none⟩)) ∧ Box4 w5.drew y (.int .i64 n) (.int .i64 (kd : Int)) (.int .u64 (ow : Int)) (.int .u64 (nx : Int)) ∧ ¬ Q5 v ∧ ¬ Q5 y ∧ (∀ x, Q5 x → Q x ∨ w.heap.size ≤ x) from ⟨H5.out.1.drew, H5.out.2.1.drew, H5.out.2.2.1.below (Below.refl _ _).drew, H5.out.2.2.2.1.below (Below.refl _ _).drew, H5.out.2.2.2.2⟩)
    refine wp_region_noPanic ?_
    refine wp_region_held_drew (S := fun W => W.cell? ⟨v, 0, none⟩ = some (.pointer (some ⟨a, 0, none⟩)) ∧ W.cell? ⟨v, 2, none⟩ = some (.pointer (some ⟨c, 0, none⟩)) ∧ W.cell? ⟨y, 0, none⟩ = some (.int .i64 n)) (by kernel_rfl) (⟨c0, c2, e0⟩) (fun hHeld => ?_)
    refine wpAnyH_take (i := 0) (oi := ({ dst := some 32, op := Op.move (Operand.tmp 9), type := 3, pos := "chunk.go:109", after := #[], guard := none } : Oper)) (v := ?_) rfl (by kernel_rfl) (by kernel_rfl) (by kernel_rfl) (fun _ _ _ h => h) (Or.inl ⟨by rfl, ?_⟩) (by assumption) ?_
    rotate_left
    · (intro w hSw; (try dsimp only at hSw); go_simp) <;> with_reducible rfl
    (try simp only [Act.put, List.setIfInBounds_toArray, List.set_cons_zero, List.set_cons_succ])
    refine wpAnyH_take (i := 2) (oi := ({ dst := some 34, op := Op.fieldAddr 41 (Operand.tmp 6) 0, type := 0, pos := "chunk.go:109", after := #[], guard := none } : Oper)) (v := ?_) rfl (by kernel_rfl) (by kernel_rfl) (by kernel_rfl) (fun _ _ _ h => h) (Or.inl ⟨by rfl, ?_⟩) (by assumption) ?_
    rotate_left
    · (intro w hSw; (try dsimp only at hSw); go_simp) <;> with_reducible rfl
    (try simp only [Act.put, List.setIfInBounds_toArray, List.set_cons_zero, List.set_cons_succ])
    refine wpAnyH_take (i := 3) (oi := ({ dst := some 35, op := Op.load 3 (Operand.tmp 34), type := 3, pos := "chunk.go:109", after := #[{ on := 2, ground := Ground.data }], guard := none } : Oper)) (v := ?_) rfl (by kernel_rfl) (by kernel_rfl) (by kernel_rfl) (fun _ _ _ h => h) (Or.inl ⟨by rfl, ?_⟩) (by assumption) ?_
    rotate_left
    · (intro w hSw; (try dsimp only at hSw); go_simp) <;> with_reducible rfl
    (try simp only [Act.put, List.setIfInBounds_toArray, List.set_cons_zero, List.set_cons_succ])
    refine wpAnyH_ready (rs := [1]) (by kernel_rfl) (by simp) ?_
    refine AllReadyH.cons (o := ({ dst := some 33, op := Op.call { callee := Callee.value (Operand.func 33), args := #[Operand.tmp 32], argTypes := #[3] }, type := 3, pos := "chunk.go:109", after := #[{ on := 0, ground := Ground.data }], guard := none } : Oper)) rfl (fun K hK => ?_) ?_
    · go_simp
      refine (cpages_at d n rfl HQ.out.symm _).mono ?_
      rintro e w7 ⟨rfl, rfl⟩
      go_wp2_with fail
      refine hK.out _ _ ?_ (fun hHeld => ?_)
      · exact ⟨c0, c2, e0⟩
      clear hK K
      (try simp only [Act.put, List.setIfInBounds_toArray, List.set_cons_zero, List.set_cons_succ])
      refine wpAnyH_take (i := 4) (oi := ({ dst := some 36, op := Op.binOp BinOp.eql 3 (Operand.tmp 33) (Operand.tmp 35) 3, type := 4, pos := "chunk.go:109", after := #[{ on := 1, ground := Ground.data }, { on := 3, ground := Ground.data }], guard := none } : Oper)) (v := ?_) rfl (by kernel_rfl) (by kernel_rfl) (by kernel_rfl) (fun _ _ _ h => h) (Or.inl ⟨by rfl, ?_⟩) (by assumption) ?_
      rotate_left
      · (intro w hSw; (try dsimp only at hSw); go_simp) <;> with_reducible rfl
      (try simp only [Act.put, List.setIfInBounds_toArray, List.set_cons_zero, List.set_cons_succ])
      refine wpAnyH_take (i := 5) (oi := ({ dst := some 37, op := Op.move (Operand.tmp 36), type := 4, pos := "chunk.go:109", after := #[{ on := 4, ground := Ground.data }, { on := 1, ground := Ground.chain }], guard := none } : Oper)) (v := ?_) rfl (by kernel_rfl) (by kernel_rfl) (by kernel_rfl) (fun _ _ _ h => h) (Or.inl ⟨by rfl, ?_⟩) (by assumption) ?_
      rotate_left
      · (intro w hSw; (try dsimp only at hSw); go_simp) <;> with_reducible rfl
      (try simp only [Act.put, List.setIfInBounds_toArray, List.set_cons_zero, List.set_cons_succ])
      refine wpAnyH_take (i := 6) (oi := ({ dst := some 38, op := Op.fieldAddr 61 (Operand.tmp 5) 2, type := 0, pos := "chunk.go:109", after := #[{ on := 5, ground := Ground.guard }], guard := some (5, true) } : Oper)) (v := ?_) rfl (by kernel_rfl) (by kernel_rfl) (by kernel_rfl) (fun _ _ _ h => h) (Or.inl ⟨by rfl, ?_⟩) (by assumption) ?_
      rotate_left
      · (intro w hSw; (try dsimp only at hSw); go_simp) <;> with_reducible rfl
      (try simp only [Act.put, List.setIfInBounds_toArray, List.set_cons_zero, List.set_cons_succ])
      refine wpAnyH_take (i := 7) (oi := ({ dst := some 39, op := Op.load 58 (Operand.tmp 38), type := 58, pos := "chunk.go:109", after := #[{ on := 6, ground := Ground.data }, { on := 5, ground := Ground.guard }], guard := some (5, true) } : Oper)) (v := ?_) rfl (by kernel_rfl) (by kernel_rfl) (by kernel_rfl) (fun _ _ _ h => h) (Or.inl ⟨by rfl, ?_⟩) (by assumption) ?_
      rotate_left
      · (intro w hSw; (try dsimp only at hSw); go_simp) <;> with_reducible rfl
      (try simp only [Act.put, List.setIfInBounds_toArray, List.set_cons_zero, List.set_cons_succ])
      refine wpAnyH_take (i := 8) (oi := ({ dst := some 40, op := Op.move (Operand.tmp 9), type := 3, pos := "chunk.go:109", after := #[{ on := 5, ground := Ground.guard }], guard := some (5, true) } : Oper)) (v := ?_) rfl (by kernel_rfl) (by kernel_rfl) (by kernel_rfl) (fun _ _ _ h => h) (Or.inl ⟨by rfl, ?_⟩) (by assumption) ?_
      rotate_left
      · (intro w hSw; (try dsimp only at hSw); go_simp) <;> with_reducible rfl
      (try simp only [Act.put, List.setIfInBounds_toArray, List.set_cons_zero, List.set_cons_succ])
      refine wpAnyH_take (i := 9) (oi := ({ dst := some 41, op := Op.move (Operand.tmp 1), type := 3, pos := "chunk.go:109", after := #[{ on := 5, ground := Ground.guard }], guard := some (5, true) } : Oper)) (v := ?_) rfl (by kernel_rfl) (by kernel_rfl) (by kernel_rfl) (fun _ _ _ h => h) (Or.inl ⟨by rfl, ?_⟩) (by assumption) ?_
      rotate_left
      · (intro w hSw; (try dsimp only at hSw); go_simp) <;> with_reducible rfl
      (try simp only [Act.put, List.setIfInBounds_toArray, List.set_cons_zero, List.set_cons_succ])
      refine wpAnyH_ready (rs := [10]) (by kernel_rfl) (by simp) ?_
      refine AllReadyH.cons (o := ({ dst := some 42, op := Op.call { callee := Callee.value (Operand.func 38), args := #[Operand.tmp 39, Operand.tmp 40, Operand.tmp 41], argTypes := #[58, 3, 3] }, type := 4, pos := "chunk.go:109", after := #[{ on := 7, ground := Ground.data }, { on := 8, ground := Ground.data }, { on := 9, ground := Ground.data }, { on := 5, ground := Ground.chain }, { on := 5, ground := Ground.guard }], guard := some (5, true) } : Oper)) rfl (fun K hK => ?_) ?_
      · go_simp
        refine (st_push H6.out.1 d p).mono ?_
        rintro e w8 ⟨rfl, hh, hk8⟩
        have H8 := Lib.hid (show Sto D w0 w8 a b c P { Z with u := Z.u + 3, f := M.zr Z.f (p.toNat * 4096) 32, K := M.pushF Z.K d p } Q5 k ∧ Kept w w8 Q ∧ Bx3 w8 v (.pointer (some ⟨a, 0, none⟩)) (.pointer (some ⟨b, 0, none⟩)) (.pointer (some ⟨c, 0, none⟩)) ∧ Box4 w8 y (.int .i64 n) (.int .i64 (kd : Int)) (.int .u64 (ow : Int)) (.int .u64 (nx : Int)) from
          ⟨hh, H6.out.2.1.grow hk8 H6.out.2.2.2.2.2.2, H6.out.2.2.1.kept hk8 H6.out.2.2.2.2.1, H6.out.2.2.2.1.kept hk8 H6.out.2.2.2.2.2.1⟩)
        clear hh hk8
        go_wp2_with fail
        refine hK.out _ _ ?_ (fun hHeld => ?_)
        · exact ⟨H8.out.2.2.1.c0, H8.out.2.2.1.c2, H8.out.2.2.2.c0⟩
        clear hK K
        (try simp only [Act.put, List.setIfInBounds_toArray, List.set_cons_zero, List.set_cons_succ])
        refine wpAnyH_take (i := 11) (oi := ({ dst := some 43, op := Op.pick (Operand.tmp 37) (Operand.tmp 42) (Operand.const (Value.bool false)), type := 4, pos := "chunk.go:109", after := #[{ on := 5, ground := Ground.data }, { on := 10, ground := Ground.data }], guard := none } : Oper)) (v := ?_) rfl (by kernel_rfl) (by kernel_rfl) (by kernel_rfl) (fun _ _ _ h => h) (Or.inl ⟨by rfl, ?_⟩) (by assumption) ?_
        rotate_left
        · (intro w hSw; (try dsimp only at hSw); go_simp) <;> with_reducible rfl
        (try simp only [Act.put, List.setIfInBounds_toArray, List.set_cons_zero, List.set_cons_succ])
        refine wpAnyH_done (by kernel_rfl) ?_ _
        refine NoPanic.normal ?_
        rcases Bool.eq_false_or_eq_true (M.pushB Z.K d p) with hb | hb
        · have HK := Lib.hid (show Z.put P p n = { Z with u := Z.u + 3, f := M.zr Z.f (p.toNat * 4096) 32, K := M.pushF Z.K d p } from by
            have e : ptK Z.K p n = true := by unfold ptK; rw [← HD.out, ← HQ.out, hb]; simp
            unfold St.put ptL ptT ptKy
            rw [if_pos e, if_pos e, if_pos e, ← HD.out])
          rw [show M.pushB (St.K { Z with u := Z.u + 3, f := M.zr Z.f (p.toNat * 4096) 32 }) d p = true from hb]
          clear hb
          go_wp2_with fail
          go_ret
          rw [HK.out]
          exact ⟨rfl, H.out.next (H8.out.1.more (by omega)) H8.out.2.1 H6.out.2.2.2.2.2.2, H8.out.2.1⟩
        · have HK := Lib.hid (show Z.put P p n = { Z with u := Z.u + 3, f := M.zr Z.f (p.toNat * 4096) 32, l := gvL Z.l P p n, T := gvT Z.l P p n Z.T } ∧ ¬ ptK Z.K p n = true from by
            have e : ¬ ptK Z.K p n = true := by unfold ptK; rw [← HD.out, hb]; simp
            refine ⟨?_, e⟩
            unfold St.put ptL ptT ptKy
            rw [if_neg e, if_neg e, if_neg e])
          have HX := Lib.hid (show Sto D w0 w8 a b c P { Z with u := Z.u + 3, f := M.zr Z.f (p.toNat * 4096) 32 } Q5 k ∧ Kept w w8 Q from ⟨by have := H8.out.1; rw [M.pushF_no _ _ _ hb] at this; exact this, H8.out.2.1⟩)
          rw [show M.pushB (St.K { Z with u := Z.u + 3, f := M.zr Z.f (p.toNat * 4096) 32 }) d p = false from hb]
          have f0 := H8.out.2.2.1.c0
          have g0 := H8.out.2.2.2.c0
          clear hb H8
          go_wp2_with fail
          refine (st_give (Z := { Z with u := Z.u + 3, f := M.zr Z.f (p.toNat * 4096) 32 }) HX.out.1 (by have := HS.out.2.2; omega) p n (by have := HS.out.2.1; omega)).mono ?_
          rintro e w9 ⟨rfl, hh, hk9⟩
          have H9 := Lib.hid (And.intro hh (HX.out.2.grow hk9 H6.out.2.2.2.2.2.2))
          clear hh hk9
          go_wp2_with fail
          go_ret
          rw [show gvE (St.l { Z with u := Z.u + 3, f := M.zr Z.f (p.toNat * 4096) 32 }) P p n = 0 from (HPT.out.2.2.resolve_left HK.out.2)]
          rw [HK.out.1]
          exact ⟨rfl, H.out.next H9.out.1 H9.out.2 H6.out.2.2.2.2.2.2, H9.out.2⟩
      exact AllReadyH.nil
    exact AllReadyH.nil
  · have HEQ := Lib.hid hqn
    clear hqn
    go_upto_region 9 with fail
    have hqd : (q == n) = false := by simpa using HEQ.out
    have H6 := Lib.hid (show Sto D w0 w5.drew a b c P { Z with u := Z.u + 3, f := M.zr Z.f (p.toNat * 4096) 32 } Q5 k ∧ Kept w w5.drew Q ∧ Bx3 w5.drew v (.pointer (some ⟨a, 0, none⟩)) (.pointer (some ⟨b, 0, none⟩)) (.pointer (some ⟨c, 0, none⟩)) ∧ Box4 w5.drew y (.int .i64 n) (.int .i64 (kd : Int)) (.int .u64 (ow : Int)) (.int .u64 (nx : Int)) ∧ ¬ Q5 v ∧ ¬ Q5 y ∧ (∀ x, Q5 x → Q x ∨ w.heap.size ≤ x) from ⟨H5.out.1.drew, H5.out.2.1.drew, H5.out.2.2.1.below (Below.refl _ _).drew, H5.out.2.2.2.1.below (Below.refl _ _).drew, H5.out.2.2.2.2⟩)
    refine wp_region_noPanic ?_
    refine wp_region_held_drew (S := fun W => W.cell? ⟨v, 0, none⟩ = some (.pointer (some ⟨a, 0, none⟩)) ∧ W.cell? ⟨v, 2, none⟩ = some (.pointer (some ⟨c, 0, none⟩)) ∧ W.cell? ⟨y, 0, none⟩ = some (.int .i64 n)) (by kernel_rfl) (⟨c0, c2, e0⟩) (fun hHeld => ?_)
    refine wpAnyH_take (i := 0) (oi := ({ dst := some 32, op := Op.move (Operand.tmp 9), type := 3, pos := "chunk.go:109", after := #[], guard := none } : Oper)) (v := ?_) rfl (by kernel_rfl) (by kernel_rfl) (by kernel_rfl) (fun _ _ _ h => h) (Or.inl ⟨by rfl, ?_⟩) (by assumption) ?_
    rotate_left
    · (intro w hSw; (try dsimp only at hSw); go_simp) <;> with_reducible rfl
    (try simp only [Act.put, List.setIfInBounds_toArray, List.set_cons_zero, List.set_cons_succ])
    refine wpAnyH_take (i := 2) (oi := ({ dst := some 34, op := Op.fieldAddr 41 (Operand.tmp 6) 0, type := 0, pos := "chunk.go:109", after := #[], guard := none } : Oper)) (v := ?_) rfl (by kernel_rfl) (by kernel_rfl) (by kernel_rfl) (fun _ _ _ h => h) (Or.inl ⟨by rfl, ?_⟩) (by assumption) ?_
    rotate_left
    · (intro w hSw; (try dsimp only at hSw); go_simp) <;> with_reducible rfl
    (try simp only [Act.put, List.setIfInBounds_toArray, List.set_cons_zero, List.set_cons_succ])
    refine wpAnyH_take (i := 3) (oi := ({ dst := some 35, op := Op.load 3 (Operand.tmp 34), type := 3, pos := "chunk.go:109", after := #[{ on := 2, ground := Ground.data }], guard := none } : Oper)) (v := ?_) rfl (by kernel_rfl) (by kernel_rfl) (by kernel_rfl) (fun _ _ _ h => h) (Or.inl ⟨by rfl, ?_⟩) (by assumption) ?_
    rotate_left
    · (intro w hSw; (try dsimp only at hSw); go_simp) <;> with_reducible rfl
    (try simp only [Act.put, List.setIfInBounds_toArray, List.set_cons_zero, List.set_cons_succ])
    refine wpAnyH_ready (rs := [1]) (by kernel_rfl) (by simp) ?_
    refine AllReadyH.cons (o := ({ dst := some 33, op := Op.call { callee := Callee.value (Operand.func 33), args := #[Operand.tmp 32], argTypes := #[3] }, type := 3, pos := "chunk.go:109", after := #[{ on := 0, ground := Ground.data }], guard := none } : Oper)) rfl (fun K hK => ?_) ?_
    · go_simp
      refine (cpages_at d q rfl HQ.out.symm _).mono ?_
      rintro e w7 ⟨rfl, rfl⟩
      go_wp2_with fail
      refine hK.out _ _ ?_ (fun hHeld => ?_)
      · exact ⟨c0, c2, e0⟩
      clear hK K
      (try simp only [Act.put, List.setIfInBounds_toArray, List.set_cons_zero, List.set_cons_succ])
      refine wpAnyH_take (i := 4) (oi := ({ dst := some 36, op := Op.binOp BinOp.eql 3 (Operand.tmp 33) (Operand.tmp 35) 3, type := 4, pos := "chunk.go:109", after := #[{ on := 1, ground := Ground.data }, { on := 3, ground := Ground.data }], guard := none } : Oper)) (v := ?_) rfl (by kernel_rfl) (by kernel_rfl) (by kernel_rfl) (fun _ _ _ h => h) (Or.inl ⟨by rfl, ?_⟩) (by assumption) ?_
      rotate_left
      · (intro w hSw; (try dsimp only at hSw); go_simp) <;> with_reducible rfl
      (try simp only [Act.put, List.setIfInBounds_toArray, List.set_cons_zero, List.set_cons_succ])
      refine wpAnyH_take (i := 5) (oi := ({ dst := some 37, op := Op.move (Operand.tmp 36), type := 4, pos := "chunk.go:109", after := #[{ on := 4, ground := Ground.data }, { on := 1, ground := Ground.chain }], guard := none } : Oper)) (v := ?_) rfl (by kernel_rfl) (by kernel_rfl) (by kernel_rfl) (fun _ _ _ h => h) (Or.inl ⟨by rfl, ?_⟩) (by assumption) ?_
      rotate_left
      · (intro w hSw; (try dsimp only at hSw); go_simp) <;> with_reducible rfl
      (try simp only [Act.put, List.setIfInBounds_toArray, List.set_cons_zero, List.set_cons_succ])
      refine wpAnyH_take (i := 6) (oi := ({ dst := some 38, op := Op.fieldAddr 61 (Operand.tmp 5) 2, type := 0, pos := "chunk.go:109", after := #[{ on := 5, ground := Ground.guard }], guard := some (5, true) } : Oper)) (v := undef) rfl (by kernel_rfl) (by kernel_rfl) (by kernel_rfl) (fun _ _ _ h => h) (Or.inr ⟨by rfl, rfl⟩) (by assumption) ?_
      (try simp only [Act.put, List.setIfInBounds_toArray, List.set_cons_zero, List.set_cons_succ])
      refine wpAnyH_take (i := 7) (oi := ({ dst := some 39, op := Op.load 58 (Operand.tmp 38), type := 58, pos := "chunk.go:109", after := #[{ on := 6, ground := Ground.data }, { on := 5, ground := Ground.guard }], guard := some (5, true) } : Oper)) (v := undef) rfl (by kernel_rfl) (by kernel_rfl) (by kernel_rfl) (fun _ _ _ h => h) (Or.inr ⟨by rfl, rfl⟩) (by assumption) ?_
      (try simp only [Act.put, List.setIfInBounds_toArray, List.set_cons_zero, List.set_cons_succ])
      refine wpAnyH_take (i := 8) (oi := ({ dst := some 40, op := Op.move (Operand.tmp 9), type := 3, pos := "chunk.go:109", after := #[{ on := 5, ground := Ground.guard }], guard := some (5, true) } : Oper)) (v := undef) rfl (by kernel_rfl) (by kernel_rfl) (by kernel_rfl) (fun _ _ _ h => h) (Or.inr ⟨by rfl, rfl⟩) (by assumption) ?_
      (try simp only [Act.put, List.setIfInBounds_toArray, List.set_cons_zero, List.set_cons_succ])
      refine wpAnyH_take (i := 9) (oi := ({ dst := some 41, op := Op.move (Operand.tmp 1), type := 3, pos := "chunk.go:109", after := #[{ on := 5, ground := Ground.guard }], guard := some (5, true) } : Oper)) (v := undef) rfl (by kernel_rfl) (by kernel_rfl) (by kernel_rfl) (fun _ _ _ h => h) (Or.inr ⟨by rfl, rfl⟩) (by assumption) ?_
      (try simp only [Act.put, List.setIfInBounds_toArray, List.set_cons_zero, List.set_cons_succ])
      refine wpAnyH_take (i := 10) (oi := ({ dst := some 42, op := Op.call { callee := Callee.value (Operand.func 38), args := #[Operand.tmp 39, Operand.tmp 40, Operand.tmp 41], argTypes := #[58, 3, 3] }, type := 4, pos := "chunk.go:109", after := #[{ on := 7, ground := Ground.data }, { on := 8, ground := Ground.data }, { on := 9, ground := Ground.data }, { on := 5, ground := Ground.chain }, { on := 5, ground := Ground.guard }], guard := some (5, true) } : Oper)) (v := undef) rfl (by kernel_rfl) (by kernel_rfl) (by kernel_rfl) (fun _ _ _ h => h) (Or.inr ⟨by rfl, rfl⟩) (by assumption) ?_
      (try simp only [Act.put, List.setIfInBounds_toArray, List.set_cons_zero, List.set_cons_succ])
      refine wpAnyH_take (i := 11) (oi := ({ dst := some 43, op := Op.pick (Operand.tmp 37) (Operand.tmp 42) (Operand.const (Value.bool false)), type := 4, pos := "chunk.go:109", after := #[{ on := 5, ground := Ground.data }, { on := 10, ground := Ground.data }], guard := none } : Oper)) (v := ?_) rfl (by kernel_rfl) (by kernel_rfl) (by kernel_rfl) (fun _ _ _ h => h) (Or.inl ⟨by rfl, ?_⟩) (by assumption) ?_
      rotate_left
      · (intro w hSw; (try dsimp only at hSw); go_simp) <;> with_reducible rfl
      (try simp only [Act.put, List.setIfInBounds_toArray, List.set_cons_zero, List.set_cons_succ])
      refine wpAnyH_done (by kernel_rfl) ?_ _
      refine NoPanic.normal ?_
      have HK := Lib.hid (show Z.put P p n = { Z with u := Z.u + 3, f := M.zr Z.f (p.toNat * 4096) 32, l := gvL Z.l P p n, T := gvT Z.l P p n Z.T } ∧ ¬ ptK Z.K p n = true from by
        have e : ¬ ptK Z.K p n = true := by unfold ptK; rw [← HD.out, ← HQ.out]; simp [HEQ.out]
        refine ⟨?_, e⟩
        unfold St.put ptL ptT ptKy
        rw [if_neg e, if_neg e, if_neg e])
      have HX := Lib.hid (show Sto D w0 _ a b c P { Z with u := Z.u + 3, f := M.zr Z.f (p.toNat * 4096) 32 } Q5 k ∧ Kept w _ Q from ⟨H6.out.1, H6.out.2.1⟩)
      go_wp2_with fail
      refine (st_give (Z := { Z with u := Z.u + 3, f := M.zr Z.f (p.toNat * 4096) 32 }) HX.out.1 (by have := HS.out.2.2; omega) p n (by have := HS.out.2.1; omega)).mono ?_
      rintro e w9 ⟨rfl, hh, hk9⟩
      have H9 := Lib.hid (And.intro hh (HX.out.2.grow hk9 H6.out.2.2.2.2.2.2))
      clear hh hk9
      go_wp2_with fail
      go_ret
      rw [show gvE (St.l { Z with u := Z.u + 3, f := M.zr Z.f (p.toNat * 4096) 32 }) P p n = 0 from (HPT.out.2.2.resolve_left HK.out.2)]
      rw [HK.out.1]
      exact ⟨rfl, H.out.next H9.out.1 H9.out.2 H6.out.2.2.2.2.2.2, H9.out.2⟩
    exact AllReadyH.nil
end
end Go.Proofs.Ytmagdhcpbofkbaa
/-
  A Store, by the program: Free.
-/
namespace Go.Proofs.Ytmagdhcpbofkbaa
open Go.ChangeShapes Go.WideShapes Go.ChangeAt Go.RowKit Go.Deep
set_option linter.unusedVariables false
set_option maxRecDepth 20000

section
variable {w0 w : World} {s a b c P : Nat} {Z : St} {Q D : Nat → Prop} {k : Nat}
end
end Go.Proofs.Ytmagdhcpbofkbaa
/-
  What stays true of a Store behind its calls; the document's example.
-/
namespace Go.Proofs.Ytmagdhcpbofkbaa
open Go.ChangeShapes Go.WideShapes Go.ChangeAt Go.RowKit Go.Deep
set_option linter.unusedVariables false
set_option maxRecDepth 20000

theorem Stands.wiped {f : Nat → UInt8} {a p k o n : Nat} (h : Stands f a p k o n) (b m : Nat) (hd : a * 4096 + 32 ≤ b ∨ b + m ≤ a * 4096) : Stands (M.zr f b m) a p k o n := by
  rw [M.zr_eq]
  exact h.apart b _ (by rw [List.length_replicate]; exact hd)
section
variable {P : Nat} {Z : St} {G G' : List M.R}
theorem Inv.perm (h : Inv P Z G) (e : G.Perm G') : Inv P Z G' := ⟨h.good, h.pt.perm (e.append_left _), fun r hr => h.hd r (e.mem_iff.2 hr)⟩
theorem Inv.get_ok (h : Inv P Z G) (hP : P ≤ 1048576) {pages kind : Int} {o : Nat} (h1 : 1 ≤ pages) (h2 : pages ≤ 1048576) (h3 : 0 ≤ kind) (h4 : kind ≤ 255) (ho : o < 18446744073709551616) (he : (getF P Z pages).e = 0) :
    Inv P (Z.get P pages kind o) (⟨getP P Z pages, getN P Z pages⟩ :: G) ∧ Stands (Z.get P pages kind o).f (getP P Z pages).toNat (getN P Z pages).toNat kind.toNat o 0 ∧ pages ≤ getN P Z pages ∧
      (∀ r ∈ G, ∀ m k q n, Stands Z.f r.p.toNat m k q n → Stands (Z.get P pages kind o).f r.p.toNat m k q n) ∧ (Z.get P pages kind o).u = Z.u + 1 := by
  have hg := get_pt h h1 h2
  have hn := M.ckN_ge h1 h2
  have eZ : Z.get P pages kind o = ⟨(getF P Z pages).l, (getF P Z pages).T, (getF P Z pages).K, Z.u + 1, M.wr Z.f ((getF P Z pages).p.toNat * 4096) (M.hd (M.ckN pages).toNat kind.toNat o 0)⟩ := by unfold St.get; rw [if_pos he]
  have eP : getP P Z pages = (getF P Z pages).p := by unfold getP; rw [if_pos he]
  have eN : getN P Z pages = M.ckN pages := by unfold getN; rw [if_pos he]
  rw [eZ, eP, eN]
  rcases hg.2 with ⟨_, hp⟩ | ⟨e, _⟩
  · have hin := hp.inn (List.mem_cons_self ..)
    simp only at hin
    have hr : M.right ((M.ckN pages).toNat : Nat) (kind.toNat : Nat) = true := (M.right_iff _ _).2 (by omega)
    have hst := Stands.written Z.f (getF P Z pages).p.toNat (M.ckN pages).toNat kind.toNat o 0 hr ho (by omega)
    have hks : ∀ r ∈ G, ∀ m k q n, Stands Z.f r.p.toNat m k q n → Stands (M.wr Z.f ((getF P Z pages).p.toNat * 4096) (M.hd (M.ckN pages).toNat kind.toNat o 0)) r.p.toNat m k q n := fun r hr m k q n hs => by
      have h0 := (h.in hr).1
      have hne := hp.off (List.mem_append.2 (.inr hr))
      simp only at hne
      exact hs.apart _ _ (by rw [M.hd_length]; omega)
    refine ⟨⟨hg.1, hp.perm List.perm_middle.symm, fun r hr => ?_⟩, hst, hn.1, hks, rfl⟩
    rcases List.mem_cons.1 hr with rfl | hr
    · exact ⟨_, _, _, hst⟩
    · obtain ⟨k, q, n', hs⟩ := h.hd r hr
      exact ⟨k, q, n', hks r hr _ _ _ _ hs⟩
  · omega
theorem Inv.get_no (h : Inv P Z G) {pages kind : Int} {o : Nat} (h1 : 1 ≤ pages) (h2 : pages ≤ 1048576) (he : (getF P Z pages).e ≠ 0) :
    (getF P Z pages).e = 4 ∧ getP P Z pages = 0 ∧ getN P Z pages = 0 ∧ Inv P (Z.get P pages kind o) G ∧ (Z.get P pages kind o).f = Z.f ∧ (Z.get P pages kind o).u = Z.u ∧ M.all (Z.get P pages kind o).K = [] ∧ takeB (Z.get P pages kind o).l (M.ckN pages) = false := by
  have hg := get_pt h h1 h2
  have eZ : Z.get P pages kind o = Z.of (getF P Z pages) := by unfold St.get; rw [if_neg he]
  rw [eZ]
  rcases hg.2 with ⟨e, _⟩ | ⟨e, hp, hk, ht⟩
  · exact absurd e he
  · exact ⟨e, by unfold getP; rw [if_neg he], by unfold getN; rw [if_neg he], ⟨hg.1, hp, h.hd⟩, rfl, rfl, hk, ht⟩
theorem Inv.put {p n : Int} (h : Inv P Z (⟨p, n⟩ :: G)) : Inv P (Z.put P p n) G ∧ (∀ r ∈ G, ∀ m k q n', Stands Z.f r.p.toNat m k q n' → Stands (Z.put P p n).f r.p.toNat m k q n') := by
  have hp := pt_pt h.good (show Pt P Z.l (⟨p, n⟩ :: (M.all Z.K ++ G)) from h.pt.perm List.perm_middle)
  have hks : ∀ r ∈ G, ∀ m k q n', Stands Z.f r.p.toNat m k q n' → Stands (Z.put P p n).f r.p.toNat m k q n' := fun r hr m k q n' hs => by
    have h0 := (h.in (List.mem_cons_of_mem _ hr)).1
    have h1 := (h.in (List.mem_cons_self ..)).1
    have hne := (h.pt.perm List.perm_middle).off (List.mem_append.2 (.inr hr))
    simp only at hne h1
    exact hs.wiped _ _ (by omega)
  refine ⟨⟨hp.1, hp.2.1, fun r hr => ?_⟩, hks⟩
  obtain ⟨k, q, n', hs⟩ := h.hd r (List.mem_cons_of_mem _ hr)
  exact ⟨k, q, n', hks r hr _ _ _ _ hs⟩
theorem Inv.trim (h : Inv P Z G) : Inv P (Z.trim P) G := ⟨M.Good.empty, giveAll_pt _ _ _ h.pt, h.hd⟩
theorem Inv.read (h : Inv P Z G) (u : Nat) : Inv P { Z with u := u } G := ⟨h.good, h.pt, h.hd⟩
end

theorem aw1 : getF 16 (St.new 16) 3 = ⟨0, 0, [⟨4, 12⟩], M.empty, 2⟩ := by kernel_rfl
theorem aw2 : ptL 16 [⟨4, 12⟩] M.empty 0 4 = [⟨4, 12⟩] ∧ ptT 16 [⟨4, 12⟩] M.empty 0 4 2 = 2 ∧ ptKy M.empty 0 4 = M.pushF M.empty 2 0 := ⟨by kernel_rfl, by kernel_rfl, by kernel_rfl⟩
def awZ1 : St := ⟨[⟨4, 12⟩], 2, M.empty, 1, M.wr (fun _ => 0) (0 * 4096) (M.hd 4 0 7 0)⟩
def awZ2 : St := ⟨[⟨4, 12⟩], 2, M.empty, 2, M.wr (fun _ => 0) (0 * 4096) (M.hd 4 0 7 0)⟩
theorem awZ1_eq : (St.new 16).get 16 3 0 7 = awZ1 := by unfold St.get; rw [aw1, if_pos rfl]; rfl
theorem aw3 : getF 16 (awZ2.put 16 0 4) 4 = ⟨0, 0, [⟨4, 12⟩], M.popF (M.pushF M.empty 2 0) 2, 2⟩ := by kernel_rfl
end Go.Proofs.Ytmagdhcpbofkbaa
