/-
  What PagerunAll keeps: the runs that were taken, and the free ones, are all pages.
-/
import Derived.Test.YtloiomfbmabfbaaArg6
import Derived.Test.YtloiomfbmabfbaaRTk5
namespace Go.Proofs.Ytloiomfbmabfbaa
open Go.ChangeShapes Go.WideShapes Go.ChangeAt Go.RowKit Go.Deep
set_option linter.unusedVariables false
set_option maxRecDepth 20000

/-- Two runs share no page. -/
def Off (r s : M.R) : Prop := ∀ x, ¬ ((r.p ≤ x ∧ x < r.p + r.n) ∧ (s.p ≤ x ∧ x < s.p + s.n))
structure Part (P : Int) (l G : List M.R) : Prop where
  inn : ∀ r ∈ G, 0 ≤ r.p ∧ 1 ≤ r.n ∧ r.p + r.n ≤ P
  off : ∀ r ∈ G, ∀ x, r.p ≤ x → x < r.p + r.n → ¬ M.Pg l x
  sep : G.Pairwise Off
  all : ∀ x, 0 ≤ x → x < P → M.Pg l x ∨ ∃ r ∈ G, r.p ≤ x ∧ x < r.p + r.n
theorem Part.new (P : Int) : Part P [⟨0, P⟩] [] := ⟨fun r h => (by cases h), fun r h => (by cases h), List.Pairwise.nil, fun x h1 h2 => .inl ⟨_, List.mem_singleton.2 rfl, h1, by simpa using h2⟩⟩
theorem Part.take {P : Int} {l G : List M.R} (h : Part P l G) (hok : M.Ok (-1) P l) {n : Int} (hb : takeB l n = true) : Part P (takeL l n) (G ++ [⟨takeP l n, n⟩]) := by
  have ht := take_step hok hb
  refine ⟨fun r hr => ?_, fun r hr x h1 h2 => ?_, ?_, fun x h1 h2 => ?_⟩
  · rcases List.mem_append.1 hr with hr | hr
    · exact h.inn r hr
    · rw [List.mem_singleton.1 hr]
      exact ⟨ht.2.2.2.2.2.1, ht.2.2.2.2.1, ht.2.2.2.2.2.2⟩
  · rw [ht.2.2.1 x]
    rintro ⟨h3, h4⟩
    rcases List.mem_append.1 hr with hr | hr
    · exact h.off r hr x h1 h2 h3
    · rw [List.mem_singleton.1 hr] at h1 h2
      exact h4 ⟨h1, h2⟩
  · refine List.pairwise_append.2 ⟨h.sep, List.pairwise_singleton _ _, fun r hr s hs x => ?_⟩
    rw [List.mem_singleton.1 hs]
    rintro ⟨⟨h1, h2⟩, h3, h4⟩
    exact h.off r hr x h1 h2 (ht.2.2.2.1 x h3 h4)
  · rcases h.all x h1 h2 with h3 | ⟨r, hr, h3⟩
    · by_cases h4 : takeP l n ≤ x ∧ x < takeP l n + n
      · exact .inr ⟨_, List.mem_append.2 (.inr (List.mem_singleton.2 rfl)), h4⟩
      · exact .inl ((ht.2.2.1 x).2 ⟨h3, h4⟩)
    · exact .inr ⟨r, List.mem_append.2 (.inl hr), h3⟩
theorem Part.give {P : Int} {l G : List M.R} (h : Part P l G) (hok : M.Ok (-1) P l) (j : Nat) (hj : j < G.length) :
    giveB l P G[j].p G[j].n = true ∧ Part P (giveL l P G[j].p G[j].n) (G.take j ++ G.drop (j + 1)) := by
  have hm := List.getElem_mem hj
  have hi := h.inn _ hm
  have hgb : giveB l P G[j].p G[j].n = true := by
    rw [giveB_of hi.1 hi.2.1 hi.2.2, (M.has_not hok _ _ hi.2.1).2 (h.off _ hm)]
    rfl
  have hg := give_step hok hgb
  have e : G = G.take j ++ (G[j] :: G.drop (j + 1)) := by rw [List.getElem_cons_drop, List.take_append_drop]
  have hsub : ∀ r ∈ G.take j ++ G.drop (j + 1), r ∈ G := fun r hr => by
    rcases List.mem_append.1 hr with hr | hr
    · exact List.mem_of_mem_take hr
    · exact List.mem_of_mem_drop hr
  have hse := h.sep
  rw [e] at hse
  have hse' := List.pairwise_append.1 hse
  have hno : ∀ r ∈ G.take j ++ G.drop (j + 1), Off r G[j] := fun r hr x hx => by
    rcases List.mem_append.1 hr with hr | hr
    · exact hse'.2.2 r hr _ (List.mem_cons_self ..) x hx
    · exact (List.pairwise_cons.1 hse'.2.1).1 r hr x ⟨hx.2, hx.1⟩
  refine ⟨hgb, fun r hr => h.inn r (hsub r hr), fun r hr x h1 h2 => ?_, ?_, fun x h1 h2 => ?_⟩
  · rw [hg.2.2.1 x]
    rintro (h3 | h3)
    · exact h.off r (hsub r hr) x h1 h2 h3
    · exact hno r hr x ⟨⟨h1, h2⟩, h3⟩
  · exact List.pairwise_append.2 ⟨hse'.1, (List.pairwise_cons.1 hse'.2.1).2, fun r hr s hs => hse'.2.2 r hr s (List.mem_cons_of_mem _ hs)⟩
  · rw [hg.2.2.1 x]
    rcases h.all x h1 h2 with h3 | ⟨r, hr, h3⟩
    · exact .inl (.inl h3)
    · rw [e] at hr
      rcases List.mem_append.1 hr with hr | hr
      · exact .inr ⟨r, List.mem_append.2 (.inl hr), h3⟩
      · rcases List.mem_cons.1 hr with rfl | hr
        · exact .inl (.inr h3)
        · exact .inr ⟨r, List.mem_append.2 (.inr hr), h3⟩
theorem Part.done {P : Int} {l : List M.R} (h : Part P l []) (hok : M.Ok (-1) P l) (hP : 1 ≤ P) : l = [⟨0, P⟩] := by
  refine M.uniq P P _ _ (-1) (-1) hok ⟨by simp, by simp, hP, by simp, trivial⟩ (fun x => ?_)
  constructor
  · rintro ⟨r, hr, h1, h2⟩
    have := hok.mem r hr
    exact ⟨_, List.mem_singleton.2 rfl, by simp; omega, by simp; omega⟩
  · rintro ⟨r, hr, h1, h2⟩
    rw [List.mem_singleton.1 hr] at h1 h2
    simp only at h1 h2
    rcases h.all x h1 (by omega) with h3 | ⟨r, hr, _⟩
    · exact h3
    · cases hr
theorem all_step {P : Int} (hP : 1 ≤ P) : takeP [⟨0, P⟩] P = 0 ∧ tkE [⟨0, P⟩] P = 0 ∧ tkL [⟨0, P⟩] P = [] := by
  have hb : takeB [⟨0, P⟩] P = true := by
    rw [takeB_most hP]
    have : P ≤ M.most [⟨0, P⟩] := M.le_most (l := [⟨0, P⟩]) (r := ⟨0, P⟩) (by simp)
    simp [this]
  obtain ⟨k, hk, _, _, _, eP, eL⟩ := taken hb
  have : k = 0 := by simp at hk; omega
  subst this
  refine ⟨by rw [eP]; rfl, by rw [tkE, if_neg (by omega), if_pos hb], ?_⟩
  rw [tkL, if_pos hb, eL]
  unfold M.left
  simp

/-- The Alloc's free runs don't lie in that block. -/
def Apart (w : World) (g gg : Nat) : Prop := ∀ b z c, w.cell? ⟨g, 1, none⟩ = some (.slice (some b) z c) → b.block ≠ gg
theorem Apart.same {w w' : World} {g gg : Nat} (h : Apart w g gg) (e : w'.cell? ⟨g, 1, none⟩ = w.cell? ⟨g, 1, none⟩) : Apart w' g gg := fun b z c hc => h b z c (e ▸ hc)
/-- Something is written to a block that is not the Alloc's. -/
theorem Std.app {w0 w w' : World} {g : Nat} {P : Int} {l : List M.R} {T : Int} {k : Nat} {row : Option Nat} (h : Std w0 w g P l T k) (hg : w.grownBy w' row) (hr : ∀ gg, row = some gg → w0.heap.size ≤ gg ∧ gg ≠ g ∧ (l ≠ [] → Apart w g gg)) :
    Std w0 w' g P l T k ∧ w'.cell? ⟨g, 1, none⟩ = w.cell? ⟨g, 1, none⟩ := by
  obtain ⟨A, z, c, hal, hz, hru⟩ := h.has
  have hgb : w'.heap[g]? = w.heap[g]? := hg.block g hal.lt (fun e => (hr g e.symm).2.1 rfl)
  refine ⟨⟨⟨A, z, c, hal.keep hgb, hz, fun hl => ?_⟩, h.fit, h.bel.grown hg h.bel.size (fun j hj => (hr j hj).1), h.old, h.p1, h.p2⟩, World.cell?_of_block (w := w) (a := ⟨g, 1, none⟩) hgb⟩
  obtain ⟨bl, o, rfl, hc⟩ := hru hl
  have kk : ∀ j, bl < w.heap.size → w'.cell? ⟨bl, j, none⟩ = w.cell? ⟨bl, j, none⟩ := fun j hj => World.cell?_of_block (w := w) (a := ⟨bl, j, none⟩) (hg.block bl hj (fun e => (hr bl e.symm).2.2 (List.length_pos_iff.1 hl) _ _ _ hal.c1 rfl))
  exact ⟨bl, o, rfl, fun i hi => ⟨(kk _ (lt_of_cell (hc i hi).1)).trans (hc i hi).1, (kk _ (lt_of_cell (hc i hi).2)).trans (hc i hi).2⟩⟩
/-- A new block is apart. -/
theorem Std.new {w0 w : World} {g : Nat} {P : Int} {l : List M.R} {T : Int} {k : Nat} (h : Std w0 w g P l T k) (hl : l ≠ []) {gg : Nat} (hg : w.heap.size ≤ gg) : Apart w g gg := fun b z c hc e => by
  obtain ⟨A, z', c', hal, hz, hru⟩ := h.has
  rw [hal.c1] at hc
  cases hc
  obtain ⟨bl, o, e1, hc⟩ := hru (List.length_pos_iff.2 hl)
  cases e1
  have := lt_of_cell (hc 0 (List.length_pos_iff.2 hl)).1
  simp only at this e
  omega
set_option maxHeartbeats 2000000 in
theorem al_take2 (w : World) (g : Nat) (P : Int) (l : List M.R) (T : Int) (h : Has w g P l T) (hok : M.Ok (-1) P l) (h0 : 0 ≤ P) (hP : P ≤ 1048576) (hT0 : 0 ≤ T) (hT : T ≤ 1000000000000) (n : Int) :
    Calls Try.prog 14 #[.pointer (some ⟨g, 0, none⟩), .int .i64 n] w fun e w' => GotA w g P (tkL l n) (tkT l n T) (.tuple #[.int .i64 (takeP l n), .int .i64 (tkE l n)]) e w' ∧ (w'.cell? ⟨g, 1, none⟩ = w.cell? ⟨g, 1, none⟩ ∨ ∃ A' z' c', w'.cell? ⟨g, 1, none⟩ = some (.slice A' z' c') ∧ Fresh w.heap.size A') := by
  have HH := Lib.hid h
  obtain ⟨A, z, c, h, hz, hr⟩ := h
  have hl := M.len_le hok h0
  have HC := Lib.hid (take_any w A l z c hz hr (by omega) (hok.wide (by omega)) n)
  have c1 := h.c1
  have HA := Lib.hid (And.intro h (And.intro hz (show z ≤ 4000000000 by omega)))
  have HT := Lib.hid (And.intro hT0 hT)
  clear h hr hz hok hl h0 hP hT hT0
  by_cases hn : n < 1
  · have HF := Lib.hid (takeB_small (l := l) hn)
    go_enter Try.func14, Try.ntmps14
    go_wp2_with fail
    go_ret2
    refine ⟨⟨?_, ?_, World.grownBy.refl _ _⟩, .inl rfl⟩
    · rw [takeP_none HF.out, tkE, if_pos hn]; rfl
    · rw [tkL, tkT, HF.out]
      exact HH.out
  · go_enter Try.func14, Try.ntmps14
    go_wp2_with fail
    refine HC.out.mono ?_
    rintro e w1 ⟨A', t, c', rfl, ht, hR, hB, hF⟩
    have HB := Lib.hid (And.intro hB (And.intro hR ht))
    have HFR := Lib.hid hF
    clear hB hR ht hF
    rcases Bool.eq_false_or_eq_true (takeB l n) with hb | hb
    · have HE := Lib.hid (show tkE l n = 0 ∧ tkL l n = takeL l n ∧ tkT l n T = T + 1 + l.length from ⟨by rw [tkE, if_neg (by omega), if_pos hb], by rw [tkL, if_pos hb], by rw [tkT, if_pos hb]⟩)
      rw [hb] at *
      clear hb
      go_wp2_with fail
      refine (become_any w1 g P A z c T (HA.out.1.below HB.out.1) HA.out.2.2 HT.out.1 HT.out.2 A' t c').mono ?_
      rintro e w2 ⟨rfl, hal, hg⟩
      have HG := Lib.hid (And.intro hal hg)
      clear hal hg
      go_wp2_with fail
      go_ret2
      refine ⟨⟨?_, ?_, grown_go (grown_of HB.out.1 g) HG.out.2⟩, .inr ⟨A', t, c', HG.out.1.c1, HFR.out⟩⟩
      · rw [HE.out.1]; rfl
      · rw [HE.out.2.1, HE.out.2.2]
        have hz := HA.out.2.1
        exact ⟨A', t, c', by rw [← hz]; exact HG.out.1, HB.out.2.2, (HA.out.1.below HB.out.1).runs HB.out.2.1 HG.out.2⟩
    · have HE := Lib.hid (show tkE l n = 4 ∧ tkL l n = l ∧ tkT l n T = T ∧ takeP l n = 0 from ⟨by rw [tkE, if_neg (by omega), hb]; rfl, by rw [tkL, hb]; rfl, by rw [tkT, hb]; rfl, takeP_none hb⟩)
      rw [hb] at *
      clear hb
      go_wp2_with fail
      go_ret2
      refine ⟨⟨?_, ?_, grown_of HB.out.1 g⟩, .inl (HB.out.1.cell HA.out.1.lt)⟩
      · rw [HE.out.1, HE.out.2.2.2]; rfl
      · rw [HE.out.2.1, HE.out.2.2.1]
        exact HH.out.below HB.out.1

theorem s_take2 {w0 w : World} {g : Nat} {P : Int} {l : List M.R} {T : Int} {k : Nat} (h : Std w0 w g P l T k) (hk : k ≤ 1000) (n : Int) :
    Calls Try.prog 14 #[.pointer (some ⟨g, 0, none⟩), .int .i64 n] w fun e w' => e = .returned (.tuple #[.int .i64 (takeP l n), .int .i64 (tkE l n)]) ∧ Std w0 w' g P (tkL l n) (tkT l n T) (k + 1) ∧ w.grownBy w' (some g) ∧
      ∀ gg, gg < w.heap.size → Apart w g gg → Apart w' g gg := by
  have h1 := h.p1
  have h2 := h.p2
  have h3 := h.fit.t1
  refine (al_take2 w g P l T h.has h.fit.ok (by omega) (by omega) h.fit.t0 (by omega) n).mono ?_
  rintro e w' ⟨⟨rfl, hh, hg⟩, hf⟩
  refine ⟨rfl, h.grown hh hg (h.fit.take (by omega) h2 n), hg, fun gg hgg ha => ?_⟩
  rcases hf with hf | ⟨A', z', c', hc, hf⟩
  · exact ha.same hf
  · intro b z c hb e
    rw [hc] at hb
    cases hb
    have := hf b rfl
    omega
theorem Mine.grown {w w' : World} {B c g : Nat} {A : Option Addr} {l : List M.R} (h : Mine w B A l c) (hg : w.grownBy w' (some g)) (hB : g < B) : Mine w' B A l c := by
  rcases h with h | ⟨gg, cs, rfl, h1, h2, h3⟩
  · exact .inl h
  · exact .inr ⟨gg, cs, rfl, h1, h2.keep (hg.block gg h2.lt (fun e => by injection e with e; omega)), h3⟩
theorem Mine.cap {w : World} {B c : Nat} {A : Option Addr} {l : List M.R} (h : Mine w B A l c) : l.length ≤ c := by
  rcases h with ⟨_, rfl, rfl⟩ | ⟨g, cs, _, _, _, h, _⟩
  · exact Nat.le_refl _
  · exact h
theorem Runs.take {w : World} {A : Option Addr} {l : List M.R} (h : Runs w A l) (k : Nat) : Runs w A (l.take k) := fun hl => by
  obtain ⟨bl, o, e, hc⟩ := h (by simp at hl; omega)
  refine ⟨bl, o, e, fun i hi => ?_⟩
  have hi' : i < l.length := by simp at hi; omega
  rw [List.getElem_take]
  exact hc i hi'
theorem Runs.drop {w : World} {bl o : Nat} {l : List M.R} (h : Runs w (some ⟨bl, o, none⟩) l) (k : Nat) : Runs w (some ⟨bl, o + k * 2, none⟩) (l.drop k) := fun hl => by
  obtain ⟨bl', o', e, hc⟩ := h (by simp at hl; omega)
  cases e
  refine ⟨bl, _, rfl, fun i hi => ?_⟩
  have hi' : k + i < l.length := by simp at hi; omega
  rw [List.getElem_drop]
  have := hc (k + i) hi'
  rw [show o + k * 2 + i * 2 = o + (k + i) * 2 by omega]
  exact this
theorem src_cells {w : World} {bl o : Nat} {l : List M.R} (h : Runs w (some ⟨bl, o, none⟩) l) : ∀ j u, (rc l)[j]? = some u → w.cell? ((⟨bl, o, none⟩ : Addr).add j) = some u := fun j u hu => by
  have hl : 0 < l.length := by
    have := (List.getElem?_eq_some_iff.1 hu).1
    rw [rc_length] at this
    omega
  obtain ⟨bl', o', e, hc⟩ := h hl
  cases e
  rw [Addr.add_lit]
  exact runs_cells hc j u hu
/-- Runs are appended to a list of one's own, beside the Alloc. -/
theorem got_app {w0 W w' : World} {g B t c g1 c1 m : Nat} {P : Int} {l G S : List M.R} {T : Int} {k : Nat} {A : Option Addr} (h : Std w0 W g P l T k) (hm : Mine W B A G c) (ht : t = G.length) (hB : w0.heap.size ≤ B) (hgB : g < B)
    (hap : l ≠ [] → ∀ gg, (Value.slice A t c).ownBlock = some gg → Apart W g gg) (hS : m = S.length)
    (hrow : w'.ownsRow B 51 2 (.slice (some ⟨g1, 0, none⟩) (t + m) c1) (t + m) (rc G ++ rc S)) (hgr : W.grownBy w' (Value.slice A t c).ownBlock) (hat : (Value.slice A t c).ownBlock = some g1 ∨ g1 = W.heap.size) :
    Std w0 w' g P l T k ∧ Mine w' B (some ⟨g1, 0, none⟩) (G ++ S) c1 ∧ (l ≠ [] → Apart w' g g1) := by
  have hs := h.app hgr (fun gg e => by
    have := hm.low t gg e
    exact ⟨by omega, by omega, fun hl => hap hl gg e⟩)
  refine ⟨hs.1, mine_of (n := t + m) (by rw [List.length_append, ht, hS]) (by rw [rc_append]; exact hrow), fun hl => ?_⟩
  rcases hat with e | e
  · exact (hap hl g1 e).same hs.2
  · exact (h.new hl (by omega)).same hs.2
theorem Apart.alloc {w : World} {g gg : Nat} (h : Apart w g gg) (hg : g < w.heap.size) (o : Obj) : Apart (w.alloc o) g gg := h.same (World.cell?_alloc_lt w o ⟨g, 1, none⟩ hg)
theorem rsize (W : World) : (Go.sizeOf 51).run Try.prog W = .ok 2 W := by
  obtain ⟨i, hi, hz, hs, hb⟩ := info36
  simp [Go.sizeOf, typeInfo, hi, hs]
theorem relem : Try.prog.elem 26 = 51 := by kernel_rfl
theorem rund : Try.prog.underlying 26 = some (.slice (Try.prog.elem 26)) := by rw [relem]; exact Try.underlying26
theorem rcut_to (bl o n cap i : Nat) (hi : i ≤ cap) (W : World) : (Instr.slice 26 (.slice (some ⟨bl, o, none⟩) n cap) none (some (.int .i64 (i : Int))) none).run Try.prog W = .ok (.slice (some ⟨bl, o, none⟩) i cap) W := by
  rw [run_slice_h W 26 (some ⟨bl, o, none⟩) n cap rund .i64 i (by omega) (by omega), relem, rsize]
  simp only [Result.andThen_ok, sliced, Int.toNat_natCast, Nat.sub_zero, Nat.zero_mul]
  split <;> simp [add_zero']
theorem rcut_from (bl o n cap i : Nat) (hi : i ≤ n) (hn : n ≤ cap) : ∃ A', (∀ W, (Instr.slice 26 (.slice (some ⟨bl, o, none⟩) n cap) (some (.int .i64 (i : Int))) none none).run Try.prog W = .ok (.slice A' (n - i) (cap - i)) W) ∧ (i < n → A' = some ⟨bl, o + i * 2, none⟩) := by
  refine ⟨if cap = i then some ⟨bl, o, none⟩ else (some ⟨bl, o, none⟩ : Option Addr).map (·.add (i * 2)), fun W => by rw [run_slice_l W 26 (some ⟨bl, o, none⟩) n cap rund .i64 i (by omega) (by omega), relem, rsize]; simp only [Result.andThen_ok, sliced, Int.toNat_natCast], fun h => ?_⟩
  rw [if_neg (by omega)]
  simp [Addr.add_lit]
/-- What stands behind k takes. -/
structure Gt (w0 w : World) (g B : Nat) (P : Int) (l : List M.R) (T : Int) (k : Nat) (A : Option Addr) (t c : Nat) (G : List M.R) : Prop where
  len : t = G.length
  few : t ≤ k
  mine : Mine w B A G c
  std : Std w0 w g P l T k
  part : Part P l G
  size : B ≤ w.heap.size
  gB : g < B
  wB : w0.heap.size ≤ B
  apart : l ≠ [] → ∀ gg, (Value.slice A t c).ownBlock = some gg → Apart w g gg
theorem own_lt {w : World} {B t c : Nat} {A : Option Addr} {G : List M.R} (h : Mine w B A G c) : ∀ gg, (Value.slice A t c).ownBlock = some gg → gg < w.heap.size := fun gg e => by
  rcases h with ⟨rfl, _⟩ | ⟨g, cs, rfl, _, h2, _⟩
  · simp [Value.ownBlock] at e
  · simp [Value.ownBlock] at e
    subst e
    exact h2.lt
theorem Gt.after {w0 w w' : World} {g B : Nat} {P T T' : Int} {l l' G : List M.R} {k t c : Nat} {A : Option Addr} (h : Gt w0 w g B P l T k A t c G) (hs : Std w0 w' g P l' T' (k + 1)) (hg : w.grownBy w' (some g)) (ha : ∀ gg, gg < w.heap.size → Apart w g gg → Apart w' g gg) (hl : l' ≠ [] → l ≠ []) :
    Mine w' B A G c ∧ B ≤ w'.heap.size ∧ (l' ≠ [] → ∀ gg, (Value.slice A t c).ownBlock = some gg → Apart w' g gg) :=
  ⟨h.mine.grown hg h.gB, Nat.le_trans h.size hg.size, fun hl' gg e => ha gg (own_lt h.mine gg e) (h.apart (hl hl') gg e)⟩
theorem Gt.skip {w0 w w' : World} {g B : Nat} {P T : Int} {l G : List M.R} {k t c : Nat} {A : Option Addr} (h : Gt w0 w g B P l T k A t c G) (hs : Std w0 w' g P l T (k + 1)) (hg : w.grownBy w' (some g)) (ha : ∀ gg, gg < w.heap.size → Apart w g gg → Apart w' g gg) :
    Gt w0 w' g B P l T (k + 1) A t c G := by
  have := h.after hs hg ha (fun e => e)
  exact ⟨h.len, by have := h.few; omega, this.1, hs, h.part, this.2.1, h.gB, h.wB, this.2.2⟩
theorem own_some {g1 n c gg : Nat} (h : (Value.slice (some ⟨g1, 0, none⟩) n c).ownBlock = some gg) : g1 = gg := by
  simpa [Value.ownBlock] using h
theorem Gt.next {w0 w w' w6 : World} {g B g1 c1 : Nat} {P T T' : Int} {l l' G : List M.R} {k t c : Nat} {A : Option Addr} {x : M.R} {o : Obj} (h : Gt w0 w g B P l T k A t c G) (hs : Std w0 w' g P l' T' (k + 1)) (hg : w.grownBy w' (some g)) (ha : ∀ gg, gg < w.heap.size → Apart w g gg → Apart w' g gg)
    (hl : l' ≠ [] → l ≠ []) (hp : Part P l' (G ++ [x])) (hrow : w6.ownsRow B 51 2 (.slice (some ⟨g1, 0, none⟩) (t + 1) c1) (t + 1) (rc G ++ rc [x])) (hgr : (w'.alloc o).grownBy w6 (Value.slice A t c).ownBlock) (hat : (Value.slice A t c).ownBlock = some g1 ∨ g1 = (w'.alloc o).heap.size) :
    Gt w0 w6 g B P l' T' (k + 1) (some ⟨g1, 0, none⟩) (t + 1) c1 (G ++ [x]) := by
  have ha' := h.after hs hg ha hl
  have hm := got_app (hs.alloc o) (ha'.1.alloc o) h.len h.wB h.gB (fun e gg e2 => (ha'.2.2 e gg e2).alloc hs.has.lt o) (S := [x]) rfl hrow hgr hat
  exact ⟨by rw [List.length_append, h.len]; rfl, by have := h.few; omega, hm.2.1, hm.1, hp, Nat.le_trans ha'.2.1 (Nat.le_trans (le_alloc _ _) hgr.size), h.gB, h.wB, fun e gg e2 => by rw [← own_some e2]; exact hm.2.2 e⟩
def slLen : Value → Nat
  | .slice _ n _ => n
  | _ => 0
/-- What stands while the runs are given back. -/
structure Gb (w0 w : World) (g : Nat) (P : Int) (l : List M.R) (T : Int) (k : Nat) (A : Option Addr) (t c : Nat) (G : List M.R) : Prop where
  len : t = G.length
  cap : t ≤ c
  few : k + t ≤ 60
  runs : Runs w A G
  std : Std w0 w g P l T k
  part : Part P l G
theorem Gt.back {w0 w : World} {g B : Nat} {P T : Int} {l G : List M.R} {k t c : Nat} {A : Option Addr} (h : Gt w0 w g B P l T k A t c G) (hk : k ≤ 30) : Gb w0 w g P l T k A t c G :=
  ⟨h.len, by rw [h.len]; exact h.mine.cap, by have := h.few; omega, h.mine.runs, h.std, h.part⟩
theorem mine_row6 {w : World} {B j c : Nat} {A : Option Addr} {S : List M.R} (h : Mine w B A S c) (hj : j = S.length) : w.ownsRow B 51 2 (.slice A j c) j (rc S) := by
  subst hj
  exact owns_of h
/-- Runs are appended to none. -/
theorem gb_one {w0 w4 w6 : World} {g g1 c1 m : Nat} {P T : Int} {l S : List M.R} {k : Nat} (h : Std w0 w4 g P l T k) (hS : m = S.length) (hrow : w6.ownsRow w4.heap.size 51 2 (.slice (some ⟨g1, 0, none⟩) (0 + m) c1) (0 + m) ([] ++ rc S))
    (hgr : w4.grownBy w6 (Value.slice none 0 0).ownBlock) (hat : (Value.slice none 0 0).ownBlock = some g1 ∨ g1 = w4.heap.size) :
    (m = S.length ∧ w4.heap.size ≤ w6.heap.size) ∧ Mine w6 w4.heap.size (some ⟨g1, 0, none⟩) S c1 ∧ Std w0 w6 g P l T k ∧ (l ≠ [] → Apart w6 g g1) ∧ Below w4.heap.size w4 w6 := by
  have hm := got_app (G := []) (A := none) (c := 0) (t := 0) h (.inl ⟨rfl, rfl, rfl⟩) rfl h.bel.size h.has.lt (fun _ gg e => by simp [Value.ownBlock] at e) hS hrow hgr hat
  rw [List.nil_append] at hm
  exact ⟨⟨hS, hgr.size⟩, hm.2.1, hm.1, hm.2.2, hgr.os, hgr.tape, hgr.output, hgr.size, fun i hi => hgr.block i hi (fun e => by simp [Value.ownBlock] at e)⟩
theorem gb_two {w0 w6 w7 : World} {g B g1 c1 g2 c2 j m : Nat} {P T : Int} {l S S2 : List M.R} {k : Nat} (h : Std w0 w6 g P l T k) (hm : Mine w6 B (some ⟨g1, 0, none⟩) S c1) (hj : j = S.length) (hB : w0.heap.size ≤ B) (hgB : g < B) (hap : l ≠ [] → Apart w6 g g1) (hS : m = S2.length)
    (hrow : w7.ownsRow B 51 2 (.slice (some ⟨g2, 0, none⟩) (j + m) c2) (j + m) (rc S ++ rc S2)) (hgr : w6.grownBy w7 (Value.slice (some ⟨g1, 0, none⟩) j c1).ownBlock) (hat : (Value.slice (some ⟨g1, 0, none⟩) j c1).ownBlock = some g2 ∨ g2 = w6.heap.size) :
    Mine w7 B (some ⟨g2, 0, none⟩) (S ++ S2) c2 ∧ Std w0 w7 g P l T k := by
  have hm := got_app h hm hj hB hgB (fun e gg e2 => by rw [← own_some e2]; exact hap e) hS hrow hgr hat
  exact ⟨hm.2.1, hm.1⟩
end Go.Proofs.Ytloiomfbmabfbaa
