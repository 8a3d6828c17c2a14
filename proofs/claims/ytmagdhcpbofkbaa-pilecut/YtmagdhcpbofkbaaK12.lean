/-
  Plain mathematics of piles: chunks of one owner, linked by their headers, the one on top first.
-/
import Derived.Test.YtmagdhcpbofkbaaK11
import Derived.ArgAppend
import Derived.Deep.RegionHeld3
import Derived.Deep.DeepCutAuto
namespace Go.Proofs.Ytmagdhcpbofkbaa
open Go.ChangeShapes Go.WideShapes Go.ChangeAt Go.RowKit Go.Deep
set_option linter.unusedVariables false
set_option maxRecDepth 20000

/-- What a header tells of the one below: its page and 1; 0: there is none. -/
def nx : List M.R → Nat
  | [] => 0
  | r :: _ => r.p.toNat + 1
/-- Chunks of one owner, each linked to the one below. -/
def Chn (f : Nat → UInt8) (kd o : Nat) : List M.R → Prop
  | [] => True
  | r :: L => Stands f r.p.toNat r.n.toNat kd o (nx L) ∧ Chn f kd o L
theorem Chn.keep {f f' : Nat → UInt8} {kd o : Nat} : ∀ {L : List M.R}, Chn f kd o L → (∀ r ∈ L, ∀ m k q n, Stands f r.p.toNat m k q n → Stands f' r.p.toNat m k q n) → Chn f' kd o L
  | [], _, _ => trivial
  | r :: L, h, hk => ⟨hk r (List.mem_cons_self ..) _ _ _ _ h.1, Chn.keep h.2 (fun s hs => hk s (List.mem_cons_of_mem _ hs))⟩
/-- The j-th one of a pile, by its header. -/
theorem Chn.at {f : Nat → UInt8} {kd o : Nat} : ∀ {L : List M.R}, Chn f kd o L → ∀ (j : Nat) (h : j < L.length), Stands f L[j].p.toNat L[j].n.toNat kd o (nx (L.drop (j + 1)))
  | [], _, j, h => absurd h (by simp)
  | r :: L, h, 0, _ => h.1
  | r :: L, h, j + 1, hj => Chn.at h.2 j (by simpa using hj)
theorem nx_drop {L : List M.R} {j : Nat} (h : j < L.length) : nx (L.drop j) = L[j].p.toNat + 1 := by rw [List.drop_eq_getElem_cons h]; rfl
theorem nx_end {L : List M.R} {j : Nat} (h : L.length ≤ j) : nx (L.drop j) = 0 := by rw [List.drop_of_length_le h]; rfl

/-- A link is laid into a header. -/
def St.lnk (Z : St) (q m : Nat) : St := { Z with u := Z.u + 2, f := M.wr Z.f (q * 4096 + 24) (M.enc 8 m) }
section
variable {P : Nat} {Z : St} {G : List M.R} {r : M.R}
theorem Inv.off (h : Inv P Z (r :: G)) {s : M.R} (hs : s ∈ G) : r.p ≠ s.p ∧ 0 ≤ r.p ∧ 0 ≤ s.p := by
  have h0 := (h.in (List.mem_cons_of_mem _ hs)).1
  have h1 := (h.in (List.mem_cons_self ..)).1
  exact ⟨(h.pt.perm List.perm_middle).off (List.mem_append.2 (.inr hs)), h1, h0⟩
theorem Inv.lnk (h : Inv P Z (r :: G)) (m : Nat) (hm : m < 18446744073709551616) {k o n : Nat} (hs : Stands Z.f r.p.toNat r.n.toNat k o n) :
    Inv P (Z.lnk r.p.toNat m) (r :: G) ∧ Stands (Z.lnk r.p.toNat m).f r.p.toNat r.n.toNat k o m ∧ (∀ s ∈ G, ∀ m' k q n, Stands Z.f s.p.toNat m' k q n → Stands (Z.lnk r.p.toNat m).f s.p.toNat m' k q n) := by
  have hks : ∀ s ∈ G, ∀ m' k q n, Stands Z.f s.p.toNat m' k q n → Stands (Z.lnk r.p.toNat m).f s.p.toNat m' k q n := fun s hs m' k q n ht => by
    have := h.off hs
    exact ht.apart _ _ (by rw [M.enc_length]; omega)
  have h1 : Stands (Z.lnk r.p.toNat m).f r.p.toNat r.n.toNat k o m := hs.linked m hm
  refine ⟨⟨h.good, h.pt, fun s ht => ?_⟩, h1, hks⟩
  rcases List.mem_cons.1 ht with rfl | ht
  · exact ⟨_, _, _, h1⟩
  · obtain ⟨k', q, n', hs'⟩ := h.hd s (List.mem_cons_of_mem _ ht)
    exact ⟨k', q, n', hks s ht _ _ _ _ hs'⟩
theorem Inv.gt14 (h : Inv P Z G) (hP : P ≤ 1048576) (pages kind : Int) (o : Nat) (ho : o < 18446744073709551616) :
    (gtE P Z pages kind = 0 ∧ Inv P (Z.gt P pages kind o) (⟨gtP P Z pages kind, gtN P Z pages kind⟩ :: G) ∧ Stands (Z.gt P pages kind o).f (gtP P Z pages kind).toNat (gtN P Z pages kind).toNat kind.toNat o 0 ∧ gtN P Z pages kind = M.ckN pages ∧ (1 ≤ pages ∧ pages ≤ 1048576) ∧ (Z.gt P pages kind o).u = Z.u + 1 ∧
      (∀ r ∈ G, ∀ m k q n, Stands Z.f r.p.toNat m k q n → Stands (Z.gt P pages kind o).f r.p.toNat m k q n)) ∨
    ((gtE P Z pages kind = 1 ∨ gtE P Z pages kind = 4 ∧ M.all (Z.gt P pages kind o).K = [] ∧ takeB (Z.gt P pages kind o).l (M.ckN pages) = false) ∧ gtP P Z pages kind = 0 ∧ gtN P Z pages kind = 0 ∧ Inv P (Z.gt P pages kind o) G ∧ (Z.gt P pages kind o).f = Z.f ∧ (Z.gt P pages kind o).u = Z.u) := by
  unfold gtP gtN gtE St.gt
  by_cases hb : getB pages kind = true
  · obtain ⟨h1, h2, h3, h4⟩ := (getB_iff _ _).1 hb
    rw [if_pos hb, if_pos hb, if_pos hb, if_pos hb]
    by_cases he : (getF P Z pages).e = 0
    · have g := h.get_ok hP h1 h2 h3 h4 ho he
      exact .inl ⟨he, g.1, g.2.1, by unfold getN; rw [if_pos he], ⟨h1, h2⟩, g.2.2.2.2, g.2.2.2.1⟩
    · have g := h.get_no (kind := kind) (o := o) h1 h2 he
      exact .inr ⟨.inr ⟨g.1, g.2.2.2.2.2.2.1, g.2.2.2.2.2.2.2⟩, g.2.1, g.2.2.1, g.2.2.2.1, g.2.2.2.2.1, g.2.2.2.2.2.1⟩
  · rw [if_neg hb, if_neg hb, if_neg hb, if_neg hb]
    exact .inr ⟨.inl rfl, rfl, rfl, h, rfl, rfl⟩
end

/-- What a Push comes to. -/
def St.psh (P : Nat) (Z : St) (L : List M.R) (pages kind : Int) (o : Nat) : St := if gtE P Z pages kind = 0 then (Z.gt P pages kind o).lnk (gtP P Z pages kind).toNat (nx L) else Z.gt P pages kind o
def pshL (P : Nat) (Z : St) (L : List M.R) (pages kind : Int) : List M.R := if gtE P Z pages kind = 0 then ⟨gtP P Z pages kind, gtN P Z pages kind⟩ :: L else L
/-- What a Pop comes to. -/
def St.pop (P : Nat) (Z : St) (r : M.R) : St := ({ Z with u := Z.u + 1 } : St).put P r.p r.n
/-- Two piles of one Store. -/
structure Duo (P : Nat) (Z : St) (k1 o1 : Nat) (L1 : List M.R) (k2 o2 : Nat) (L2 : List M.R) : Prop where
  inv : Inv P Z (L1 ++ L2)
  c1 : Chn Z.f k1 o1 L1
  c2 : Chn Z.f k2 o2 L2
section
variable {P k1 o1 k2 o2 : Nat} {Z : St} {L1 L2 : List M.R} {r : M.R}
theorem Duo.swap (h : Duo P Z k1 o1 L1 k2 o2 L2) : Duo P Z k2 o2 L2 k1 o1 L1 := ⟨h.inv.perm List.perm_append_comm, h.c2, h.c1⟩
theorem Duo.new (P : Nat) (hP : 1 ≤ P) (k1 o1 k2 o2 : Nat) : Duo P (St.new P) k1 o1 [] k2 o2 [] := ⟨Inv.new P hP, trivial, trivial⟩
theorem Duo.nx (h : Duo P Z k1 o1 L1 k2 o2 L2) (hP : P ≤ 1048576) : nx L1 ≤ 1048576 := by
  cases L1 with
  | nil => exact Nat.zero_le _
  | cons r L =>
    have := h.inv.in (r := r) (by simp)
    show r.p.toNat + 1 ≤ _
    omega
theorem Duo.psh (h : Duo P Z k1 o1 L1 k2 o2 L2) (hP : P ≤ 1048576) (pages : Int) (ho : o1 < 18446744073709551616) : Duo P (Z.psh P L1 pages k1 o1) k1 o1 (pshL P Z L1 pages k1) k2 o2 L2 := by
  have hn := h.nx hP
  unfold St.psh pshL
  rcases h.inv.gt14 hP pages (k1 : Int) o1 ho with ⟨e, hi, hs, _, _, _, hk⟩ | ⟨e, _, _, hi, hf, _⟩
  · rw [if_pos e, if_pos e]
    have q := hi.lnk (_root_.Go.Proofs.Ytmagdhcpbofkbaa.nx L1) (by omega) hs
    refine ⟨q.1, ⟨?_, ?_⟩, ?_⟩
    · have := q.2.1
      rw [Int.toNat_natCast] at this
      exact this
    · exact h.c1.keep fun r hr m k q' n hst => q.2.2 r (List.mem_append.2 (.inl hr)) _ _ _ _ (hk r (List.mem_append.2 (.inl hr)) _ _ _ _ hst)
    · exact h.c2.keep fun r hr m k q' n hst => q.2.2 r (List.mem_append.2 (.inr hr)) _ _ _ _ (hk r (List.mem_append.2 (.inr hr)) _ _ _ _ hst)
  · have e0 : gtE P Z pages k1 ≠ 0 := by omega
    rw [if_neg e0, if_neg e0]
    exact ⟨hi, by rw [hf]; exact h.c1, by rw [hf]; exact h.c2⟩
theorem Duo.read (h : Duo P Z k1 o1 L1 k2 o2 L2) (u : Nat) : Duo P { Z with u := u } k1 o1 L1 k2 o2 L2 := ⟨h.inv.read u, h.c1, h.c2⟩
theorem Duo.trim (h : Duo P Z k1 o1 L1 k2 o2 L2) : Duo P (Z.trim P) k1 o1 L1 k2 o2 L2 := ⟨h.inv.trim, h.c1, h.c2⟩
theorem Duo.pop (h : Duo P Z k1 o1 (r :: L1) k2 o2 L2) : Duo P (Z.pop P r) k1 o1 L1 k2 o2 L2 := by
  have q := (h.inv.read (Z.u + 1)).put (p := r.p) (n := r.n) (G := L1 ++ L2)
  exact ⟨q.1, h.c1.2.keep fun s hs m k q' n hst => q.2 s (List.mem_append.2 (.inl hs)) _ _ _ _ hst, h.c2.keep fun s hs m k q' n hst => q.2 s (List.mem_append.2 (.inr hs)) _ _ _ _ hst⟩
end
end Go.Proofs.Ytmagdhcpbofkbaa
/-
  Piles in memory, beside a Store: a pile's cells, its list; what stays of them.
-/
namespace Go.Proofs.Ytmagdhcpbofkbaa
open Go.ChangeShapes Go.WideShapes Go.ChangeAt Go.RowKit Go.Deep
set_option linter.unusedVariables false
set_option maxRecDepth 20000

/-- A list of runs, of one's own with room behind it, or without room. -/
def View (w : World) (B : Nat) (A : Option Addr) (c : Nat) (l : List M.R) : Prop :=
  MineR w B A l c ∨ (c = l.length ∧ ∃ g, A = some ⟨g, 0, none⟩ ∧ B ≤ g ∧ g < w.heap.size ∧ Runs w A l)
section
variable {w w' : World} {B c : Nat} {A : Option Addr} {l : List M.R} {O : Nat → Prop}
theorem View.runs (h : View w B A c l) : Runs w A l := h.elim (fun h => h.runs) (fun h => by obtain ⟨_, g, _, _, _, h⟩ := h; exact h)
theorem View.cap (h : View w B A c l) : l.length ≤ c := by
  rcases h with (⟨_, rfl, _⟩ | ⟨_, _, _, _, _, h, _⟩) | ⟨e, _⟩
  · exact Nat.zero_le _
  · exact h
  · omega
theorem View.low (h : View w B A c l) {x : Nat} (hx : rowD A x) : B ≤ x ∧ x < w.heap.size := by
  obtain ⟨ad, rfl, rfl⟩ := hx
  rcases h with (⟨e, _⟩ | ⟨g, cs, e, hB, hb, _⟩) | ⟨_, g, e, hB, hg, _⟩
  · cases e
  · cases e; exact ⟨hB, hb.lt⟩
  · cases e; exact ⟨hB, hg⟩
theorem View.some' (h : View w B A c l) (hl : 0 < l.length) : ∃ g, A = some ⟨g, 0, none⟩ := by
  rcases h with (⟨_, rfl, _⟩ | ⟨g, cs, e, _⟩) | ⟨_, g, e, _⟩
  · simp at hl
  · exact ⟨g, e⟩
  · exact ⟨g, e⟩
theorem View.kept (h : View w B A c l) (k : Kept w w' O) (hO : ∀ x, rowD A x → ¬ O x) : View w' B A c l := by
  rcases h with (e | ⟨g, cs, rfl, hB, hb, h1, h2, h3, h4⟩) | ⟨e, g, rfl, hB, hg, hr⟩
  · exact .inl (.inl e)
  · exact .inl (.inr ⟨g, cs, rfl, hB, hb.keep (k.block g hb.lt (hO g ⟨_, rfl, rfl⟩)), h1, h2, h3, h4⟩)
  · refine .inr ⟨e, g, rfl, hB, Nat.lt_of_lt_of_le hg k.size, fun hl => ?_⟩
    obtain ⟨bl, o, e1, hc⟩ := hr hl
    cases e1
    have n : ¬ O g := hO g ⟨_, rfl, rfl⟩
    exact ⟨g, 0, rfl, fun i hi => ⟨k.cell_some (hc i hi).1 n, k.cell_some (hc i hi).2 n⟩⟩
theorem View.below (h : View w B A c l) (hb : Below w.heap.size w w') : View w' B A c l := h.kept (Kept.of_below hb (fun _ => False)) (fun _ _ e => e)
theorem View.none' (w : World) (B : Nat) : View w B none 0 [] := .inl (.inl ⟨rfl, rfl, rfl⟩)
/-- Without the last one, and without room. -/
theorem View.cut (h : View w B A c l) (hl : 0 < l.length) (k : Nat) (hk : k ≤ l.length) : View w B A k (l.take k) := by
  obtain ⟨g, rfl⟩ := h.some' hl
  have low := h.low (x := g) ⟨_, rfl, rfl⟩
  have hr := h.runs
  refine .inr ⟨by rw [List.length_take]; omega, g, rfl, low.1, low.2, fun h0 => ?_⟩
  obtain ⟨bl, o, e, hc⟩ := hr hl
  refine ⟨bl, o, e, fun i hi => ?_⟩
  have hi' : i < l.length := by simp at hi; omega
  rw [List.getElem_take]
  exact hc i hi'
end

/-! Parts of lists. -/
theorem rsize14 (W : World) : (Go.sizeOf 34).run Try.prog W = .ok 2 W := by
  obtain ⟨i, hi, hz, hs, hb⟩ := info36
  simp [Go.sizeOf, typeInfo, hi, hs]
theorem relem14 : Try.prog.elem 29 = 34 := by kernel_rfl
theorem rund14 : Try.prog.underlying 29 = some (.slice (Try.prog.elem 29)) := by rw [relem14]; exact Try.underlying29
/-- 'l[:i:i]'. -/
theorem rcut14_both (g n cap i : Nat) (hi : i ≤ cap) (W : World) : (Instr.slice 29 (.slice (some ⟨g, 0, none⟩) n cap) none (some (.int .i64 (i : Int))) (some (.int .i64 (i : Int)))).run Try.prog W = .ok (.slice (some ⟨g, 0, none⟩) i i) W := by
  rw [run_slice_hm W 29 (some ⟨g, 0, none⟩) n cap rund14 .i64 .i64 i i (by omega) (by omega) (by omega), relem14, rsize14]
  simp only [Result.andThen_ok, sliced, Int.toNat_natCast, Nat.sub_zero, Nat.zero_mul]
  split <;> simp [add_zero']
theorem rcut14_from (bl o n cap i : Nat) (hi : i ≤ n) (hn : n ≤ cap) : ∃ A', (∀ W, (Instr.slice 29 (.slice (some ⟨bl, o, none⟩) n cap) (some (.int .i64 (i : Int))) none none).run Try.prog W = .ok (.slice A' (n - i) (cap - i)) W) ∧ (i < n → A' = some ⟨bl, o + i * 2, none⟩) := by
  refine ⟨if cap = i then some ⟨bl, o, none⟩ else (some ⟨bl, o, none⟩ : Option Addr).map (·.add (i * 2)), fun W => by rw [run_slice_l W 29 (some ⟨bl, o, none⟩) n cap rund14 .i64 i (by omega) (by omega), relem14, rsize14]; simp only [Result.andThen_ok, sliced, Int.toNat_natCast], fun h => ?_⟩
  rw [if_neg (by omega)]
  simp [Addr.add_lit]
theorem rcut14_to (bl o n cap i : Nat) (hi : i ≤ cap) (W : World) : (Instr.slice 29 (.slice (some ⟨bl, o, none⟩) n cap) none (some (.int .i64 (i : Int))) none).run Try.prog W = .ok (.slice (some ⟨bl, o, none⟩) i cap) W := by
  rw [run_slice_h W 29 (some ⟨bl, o, none⟩) n cap rund14 .i64 i (by omega) (by omega), relem14, rsize14]
  simp only [Result.andThen_ok, sliced, Int.toNat_natCast, Nat.sub_zero, Nat.zero_mul]
  split <;> simp [add_zero']
/-- A run is appended to such a list. -/
theorem wpList_app_view {ops : Array Oper} {rest : List Oper} {o : Oper} {a : Act} {Q : Exit → Act → World → Prop} (hgd : o.guard = none) (s x : Operand) (ho : o.op = .call { callee := .builtin .append, args := #[s, x], argTypes := #[29, 29] })
    (w : World) (B : Nat) (A : Option Addr) (t c : Nat) (l : List M.R) (hs : a.eval s = .slice A t c) (ht : t = l.length) (hv : View w B A c l)
    (g2 c2 : Nat) (p n : Int) (hx : a.eval x = .slice (some ⟨g2, 0, none⟩) 1 c2) (hc : ∀ j u, (rc [⟨p, n⟩])[j]? = some u → w.cell? ((⟨g2, 0, none⟩ : Addr).add j) = some u) (h1 : t + 1 ≤ 1000000) (hB : B ≤ w.heap.size)
    (h : ∀ g1 c1 w', View w' B (some ⟨g1, 0, none⟩) c1 (l ++ [⟨p, n⟩]) → (rowD A g1 ∨ w.heap.size ≤ g1) → Kept w w' (rowD A) → wpList Try.prog ops Q rest (a.put o.dst (.slice (some ⟨g1, 0, none⟩) (t + 1) c1)) w') : wpList Try.prog ops Q (o :: rest) a w := by
  obtain ⟨i, hi, hi0, hi1, hi2⟩ := info36
  rcases hv with hm | ⟨hcl, g, hA, hlo, hg, hr⟩
  · refine wpList_append_lies w hgd s x 29 ho B 34 i (.agg #[.int .i64 0, .int .i64 0]) 2 16 Try.underlying29 hi hi0 hi1 hi2 rfl (by decide) (.slice A t c) t (rc l) hs (by subst ht; exact owns_of hm) ⟨g2, 0, none⟩ 1 c2 (rc [⟨p, n⟩]) hx rfl hc (rc_one _) (by omega) (by unfold maxLen; omega) (by omega) hB _ rfl ?_
    intro g1 c1 w' hrow hgr hat hlt
    exact h g1 c1 w' (.inl (mine_of (n := t + 1) (by rw [List.length_append, ht]; rfl) (by rw [rc_append]; exact hrow))) (hat.imp own_D (fun e => Nat.le_of_eq e.symm)) ((Kept.refl w _).grown hgr (fun x e _ => own_D e))
  · refine wpList_append_grows w hgd s x 29 ho 34 i (.agg #[.int .i64 0, .int .i64 0]) 2 16 Try.underlying29 hi hi0 hi1 hi2 rfl (by decide) A t c (rc l) hs (fun e => by rw [hA] at e; cases e) (by rw [rc_length, ht]) (fun b hb j u hj => ?_) ⟨g2, 0, none⟩ 1 c2 (rc [⟨p, n⟩]) hx rfl hc (rc_one _) (by omega) (by unfold maxLen; omega) (by omega) ?_
    · rw [hA] at hb
      cases hb
      have hl : 0 < l.length := by
        have := (List.getElem?_eq_some_iff.1 hj).1
        rw [rc_length] at this
        omega
      obtain ⟨bl, o', e, hc'⟩ := hr hl
      rw [hA] at e
      cases e
      rw [Addr.add_lit]
      exact runs_cells hc' j u hj
    · intro v' w' hrow hgr
      have hrow' := hrow
      rcases hrow.2 with ⟨_, h0⟩ | ⟨g1, cap, cur, rfl, hb1, _⟩
      · omega
      · exact h g1 cap w' (.inl (by
          have := mine_of (n := t + 1) (l := l ++ [⟨p, n⟩]) (by rw [List.length_append, ht]; rfl) (by rw [rc_append]; exact hrow')
          rcases this with ⟨e, _⟩ | ⟨g', cs, e, hB', rest⟩
          · cases e
          · exact .inr ⟨g', cs, e, Nat.le_trans hB hB', rest⟩)) (.inr hb1) ((Kept.refl w _).grown hgr (fun x e _ => by cases e))

/-- A pile: its cells, its list; D: blocks of the law's own. -/
structure Pil (D : Nat → Prop) (w0 w : World) (p s : Nat) (kd : Int) (o : Nat) (L : List M.R) (A : Option Addr) (c : Nat) : Prop where
  bx : Box4 w p (.pointer (some ⟨s, 0, none⟩)) (.int .i64 kd) (.int .u64 (o : Int)) (.slice A L.length c)
  vw : View w w0.heap.size A c L.reverse
  pa : ¬ rowD A p
  dp : D p
  da : ∀ x, rowD A x → D x
/-- A Store, and blocks that are not its own. -/
structure Sd (D : Nat → Prop) (w0 w : World) (s a b c P : Nat) (Z : St) (Q : Nat → Prop) (k : Nat) : Prop where
  chk : Chk D w0 w s a b c P Z Q k
  off : ∀ x, D x → ¬ Q x ∧ x ≠ s ∧ w0.heap.size ≤ x
/-- The blocks of a pile. -/
def Ow (p : Nat) (A : Option Addr) : Nat → Prop := fun x => x = p ∨ rowD A x
section
variable {w0 w w' : World} {p s a b c P k k' o cc : Nat} {kd : Int} {L : List M.R} {A : Option Addr} {Z Z' : St} {Q Q' D D' O : Nat → Prop}
theorem Pil.kept (h : Pil D w0 w p s kd o L A cc) (hk : Kept w w' O) (hO : ∀ x, Ow p A x → ¬ O x) : Pil D w0 w' p s kd o L A cc :=
  ⟨h.bx.kept hk (hO p (.inl rfl)), h.vw.kept hk (fun x hx => hO x (.inr hx)), h.pa, h.dp, h.da⟩
theorem Pil.below (h : Pil D w0 w p s kd o L A cc) (hb : Below w.heap.size w w') : Pil D w0 w' p s kd o L A cc := h.kept (Kept.of_below hb (fun _ => False)) (fun _ _ e => e)
theorem Pil.more (h : Pil D w0 w p s kd o L A cc) (hD : ∀ x, D x → D' x) : Pil D' w0 w p s kd o L A cc := ⟨h.bx, h.vw, h.pa, hD p h.dp, fun x hx => hD x (h.da x hx)⟩
theorem Pil.own (h : Pil D w0 w p s kd o L A cc) : ∀ x, Ow p A x → D x := fun x hx => hx.elim (fun e => e ▸ h.dp) (h.da x)
theorem Pil.lt (h : Pil D w0 w p s kd o L A cc) : ∀ x, Ow p A x → x < w.heap.size := fun x hx => hx.elim (fun e => e ▸ h.bx.lt) (fun e => (h.vw.low e).2)
theorem Sd.below (h : Sd D w0 w s a b c P Z Q k) (hb : Below w.heap.size w w') : Sd D w0 w' s a b c P Z Q k := ⟨h.chk.below hb, h.off⟩
theorem Sd.more (h : Sd D w0 w s a b c P Z Q k) (hk : k ≤ k') : Sd D w0 w s a b c P Z Q k' := ⟨h.chk.more hk, h.off⟩
theorem Sd.bel (h : Sd D w0 w s a b c P Z Q k) : Below w0.heap.size w0 w := h.chk.bel
theorem Sd.dl (h : Sd D w0 w s a b c P Z Q k) : ∀ x, D x → x < w.heap.size := h.chk.st.dl
/-- The Store answered. -/
theorem Sd.call (h : Sd D w0 w s a b c P Z Q k) (hc : Chk D w0 w' s a b c P Z' (Wid Q w w') k') : Sd D w0 w' s a b c P Z' (Wid Q w w') k' :=
  ⟨hc, fun x hx => ⟨fun e => e.elim (h.off x hx).1 (fun e => by have := h.dl x hx; omega), (h.off x hx).2⟩⟩
theorem Pil.call (h : Pil D w0 w p s kd o L A cc) (hs : Sd D w0 w s a b c P Z Q k) (hk : Kept w w' Q) : Pil D w0 w' p s kd o L A cc := h.kept hk (fun x hx => (hs.off x (h.own x hx)).1)
/-- A call upon a part of the Store. -/
theorem Sd.part (h : Sd D w0 w s a b c P Z Q k) (hs : Sto D w0 w' a b c P Z' Q' k') (hk : Kept w w' Q) (hq : ∀ x, Q' x → Q x ∨ w.heap.size ≤ x) : Sd D w0 w' s a b c P Z' (Wid Q w w') k' := h.call (h.chk.next hs hk hq)
/-- Blocks of one's own are written, or new ones; those that are one's own then. -/
theorem Sd.side (h : Sd D w0 w s a b c P Z Q k) (hk : Kept w w' O) (hO : ∀ x, O x → D x) (hD : ∀ x, D' x → D x ∨ (w.heap.size ≤ x ∧ x < w'.heap.size)) : Sd D' w0 w' s a b c P Z Q k := by
  refine ⟨h.chk.other hk (fun x hx => ⟨(h.off x (hO x hx)).1, (h.off x (hO x hx)).2.1, (h.off x (hO x hx)).2.2, fun e => h.chk.st.rs e x (hO x hx)⟩) (fun x hx => (hD x hx).imp id (fun e => e.1)) (fun x hx => (hD x hx).elim (fun e => Nat.lt_of_lt_of_le (h.dl x e) hk.size) (fun e => e.2)), fun x hx => ?_⟩
  rcases hD x hx with e | e
  · exact h.off x e
  · exact ⟨fun q => by have := h.chk.st.lt x q; omega, by have := h.chk.bx.lt; omega, by have := h.bel.size; omega⟩
end
end Go.Proofs.Ytmagdhcpbofkbaa
/-
  A pile, by the program: New, Len, Top, next.
-/
namespace Go.Proofs.Ytmagdhcpbofkbaa
open Go.ChangeShapes Go.WideShapes Go.ChangeAt Go.RowKit Go.Deep
set_option linter.unusedVariables false
set_option maxRecDepth 20000

section
variable {D : Nat → Prop} {w0 w : World} {p s o c t : Nat} {kd : Int} {L : List M.R} {r : M.R} {A : Option Addr}
theorem pnew_any (w : World) (sv : Option Addr) (kd o : Int) : Calls Try.prog 8 #[.pointer sv, .int .i64 kd, .int .u64 o] w fun e w' => e = .returned (.pointer (some ⟨w.heap.size, 0, none⟩)) ∧ Box4 w' w.heap.size (.pointer sv) (.int .i64 kd) (.int .u64 o) (.slice none 0 0) ∧ Below w.heap.size w w' := by
  have HB := Lib.hid (And.intro (Box4.new w 67 (.pointer sv) (.int .i64 kd) (.int .u64 o) (.slice none 0 0)) ((Below.refl w.heap.size w).alloc (Nat.le_refl _) (.cells #[.pointer sv, .int .i64 kd, .int .u64 o, .slice none 0 0] 67)))
  go_enter Try.func8, Try.ntmps8
  go_wp2_with fail
  go_ret
  exact ⟨rfl, HB.out⟩
theorem plen_any {v0 v1 v2 : Value} (h : Box4 w p v0 v1 v2 (.slice A t c)) : Calls Try.prog 13 #[.pointer (some ⟨p, 0, none⟩)] w fun e w' => e = .returned (.int .i64 (t : Int)) ∧ w = w' := by
  have c3 := h.c3
  clear h
  go_enter Try.func13, Try.ntmps13
  go_wp2_with fail
  go_ret
  exact ⟨rfl, rfl⟩
theorem plen_nil (w : World) : Calls Try.prog 13 #[.pointer none] w fun e w' => e = .returned (.int .i64 0) ∧ w = w' := by
  go_enter Try.func13, Try.ntmps13
  go_wp2_with fail
  go_ret
  exact ⟨rfl, rfl⟩
end
end Go.Proofs.Ytmagdhcpbofkbaa
/-
  A pile, by the program: Top, next.
-/
namespace Go.Proofs.Ytmagdhcpbofkbaa
open Go.ChangeShapes Go.WideShapes Go.ChangeAt Go.RowKit Go.Deep
set_option linter.unusedVariables false
set_option maxRecDepth 20000

section
variable {D : Nat → Prop} {w0 w : World} {p s o c t : Nat} {kd : Int} {L : List M.R} {r : M.R} {A : Option Addr}
theorem plen_cell (hc : w.cell? ⟨p, 3, none⟩ = some (.slice A t c)) : Calls Try.prog 13 #[.pointer (some ⟨p, 0, none⟩)] w fun e w' => e = .returned (.int .i64 (t : Int)) ∧ w = w' := by
  go_enter Try.func13, Try.ntmps13
  go_wp2_with fail
  go_ret
  exact ⟨rfl, rfl⟩
set_option maxHeartbeats 4000000 in
theorem ptop_nil (w : World) : Calls Try.prog 16 #[.pointer none] w fun e w' => e = .returned (.tuple #[.agg #[.int .i64 0, .int .i64 0], .bool false]) ∧ Below w.heap.size w w' := by
  have b1 := (Below.refl w.heap.size w).alloc (Nat.le_refl _) (.cells #[.int .i64 0, .int .i64 0] 34)
  have c0 : (w.alloc (.cells #[.int .i64 0, .int .i64 0] 34)).cell? ⟨w.heap.size, 0, none⟩ = some (.int .i64 0) := by rw [World.cell?_alloc_mark]; rfl
  have c1 : (w.alloc (.cells #[.int .i64 0, .int .i64 0] 34)).cell? ⟨w.heap.size, 1, none⟩ = some (.int .i64 0) := by rw [World.cell?_alloc_mark]; rfl
  have H1 := Lib.hid (And.intro c0 (And.intro c1 b1))
  clear b1 c0 c1
  go_enter Try.func16, Try.ntmps16
  go_wp2_with fail
  refine (plen_nil _).mono ?_
  rintro e w1 ⟨rfl, rfl⟩
  go_wp2_with fail
  refine bodyPost_ret (v := .tuple #[.agg #[.int .i64 0, .int .i64 0], .bool false]) ?_ rfl ⟨rfl, H1.out.2.2⟩
  simp [results, go_sem, H1.out.1, H1.out.2.1]
set_option maxHeartbeats 4000000 in
theorem ptop_none {v0 v1 v2 : Value} (h : Box4 w p v0 v1 v2 (.slice A 0 c)) : Calls Try.prog 16 #[.pointer (some ⟨p, 0, none⟩)] w fun e w' => e = .returned (.tuple #[.agg #[.int .i64 0, .int .i64 0], .bool false]) ∧ Below w.heap.size w w' := by
  have b1 := (Below.refl w.heap.size w).alloc (Nat.le_refl _) (.cells #[.int .i64 0, .int .i64 0] 34)
  have c0 : (w.alloc (.cells #[.int .i64 0, .int .i64 0] 34)).cell? ⟨w.heap.size, 0, none⟩ = some (.int .i64 0) := by rw [World.cell?_alloc_mark]; rfl
  have c1 : (w.alloc (.cells #[.int .i64 0, .int .i64 0] 34)).cell? ⟨w.heap.size, 1, none⟩ = some (.int .i64 0) := by rw [World.cell?_alloc_mark]; rfl
  have H1 := Lib.hid (And.intro (h.below b1) (And.intro c0 (And.intro c1 b1)))
  clear h b1 c0 c1
  go_enter Try.func16, Try.ntmps16
  go_wp2_with fail
  refine (plen_any H1.out.1).mono ?_
  rintro e w1 ⟨rfl, rfl⟩
  go_wp2_with fail
  refine bodyPost_ret (v := .tuple #[.agg #[.int .i64 0, .int .i64 0], .bool false]) ?_ rfl ⟨rfl, H1.out.2.2.2⟩
  simp [results, go_sem, H1.out.2.1, H1.out.2.2.1]
set_option maxHeartbeats 4000000 in
theorem ptop_some {v0 v1 v2 : Value} {g n : Nat} {x y : Int} (h : Box4 w p v0 v1 v2 (.slice (some ⟨g, 0, none⟩) n c)) (hn : n = t + 1) (hl : n ≤ 1000000) (hx : w.cell? ⟨g, t * 2, none⟩ = some (.int .i64 x)) (hy : w.cell? ⟨g, t * 2 + 1, none⟩ = some (.int .i64 y)) :
    Calls Try.prog 16 #[.pointer (some ⟨p, 0, none⟩)] w fun e w' => e = .returned (.tuple #[.agg #[.int .i64 x, .int .i64 y], .bool true]) ∧ Below w.heap.size w w' := by
  have b1 := (Below.refl w.heap.size w).alloc (Nat.le_refl _) (.cells #[.int .i64 0, .int .i64 0] 34)
  obtain ⟨wa, hwa⟩ : ∃ z, z = w.alloc (.cells #[.int .i64 0, .int .i64 0] 34) := ⟨_, rfl⟩
  obtain ⟨b, hb⟩ : ∃ z, z = w.heap.size := ⟨_, rfl⟩
  have c0 : wa.cell? ⟨b, 0, none⟩ = some (.int .i64 0) := by rw [hwa, hb, World.cell?_alloc_mark]; rfl
  have c1 : wa.cell? ⟨b, 1, none⟩ = some (.int .i64 0) := by rw [hwa, hb, World.cell?_alloc_mark]; rfl
  have f0 : wa.frozen? ⟨b, 0, none⟩ = false := by rw [hwa, hb, World.frozen?_alloc_mark]; simp
  have f1 : wa.frozen? ⟨b, 1, none⟩ = false := by rw [hwa, hb, World.frozen?_alloc_mark]; simp
  rw [← hwa] at b1
  have e3 : wa.cell? ⟨p, 3, none⟩ = some (.slice (some ⟨g, 0, none⟩) n c) := (h.below b1).c3
  have ex : wa.cell? ⟨g, t * 2, none⟩ = some (.int .i64 x) := (b1.cell (lt_of_cell hx)).trans hx
  have ey : wa.cell? ⟨g, t * 2 + 1, none⟩ = some (.int .i64 y) := (b1.cell (lt_of_cell hy)).trans hy
  have hpb : p ≠ b := by have := h.lt; omega
  have hgb : g ≠ b := by have := lt_of_cell hx; simp only at this; omega
  obtain ⟨wb, hwb⟩ : ∃ z, z = (wa.setCell ⟨b, 0, none⟩ (.int .i64 x)).setCell ⟨b, 1, none⟩ (.int .i64 y) := ⟨_, rfl⟩
  have oth : ∀ q j, q ≠ b → wb.cell? ⟨q, j, none⟩ = wa.cell? ⟨q, j, none⟩ := fun q j hq => by
    rw [hwb, World.cell?_setCell_other _ _ _ _ (fun e => hq (by injection e with e; exact e.symm)), World.cell?_setCell_other _ _ _ _ (fun e => hq (by injection e with e; exact e.symm))]
  have k3 := (oth p 3 hpb).trans e3
  have kx := (oth g (t * 2) hgb).trans ex
  have ky := (oth g (t * 2 + 1) hgb).trans ey
  have HB := Lib.hid (show Below w.heap.size w wb from by rw [hwb]; exact (b1.setCell (p := ⟨b, 0, none⟩) (by simp; omega) _).setCell (p := ⟨b, 1, none⟩) (by simp; omega) _)
  have HC := Lib.hid (show wb.cell? ⟨b, 0, none⟩ = some (.int .i64 x) ∧ wb.cell? ⟨b, 1, none⟩ = some (.int .i64 y) from by
    rw [hwb]
    refine ⟨?_, ?_⟩
    · rw [World.cell?_setCell_other _ _ _ _ (by simp)]
      exact World.cell?_setCell_same _ _ _ c0
    · refine World.cell?_setCell_same _ _ _ (show World.cell? _ _ = some (.int .i64 0) from ?_)
      rw [World.cell?_setCell_other _ _ _ _ (by simp)]
      exact c1)
  have hs : wrap64 ((n : Int) - 1) = (t : Int) := by unfold wrap64; omega
  have hz : decide ((n : Int) = 0) = false := by simp; omega
  have hs2 : IntKind.i64.wrap ((n : Int) - 1) = (t : Int) := by rw [IntWalk.i64_in _ (by omega)]; omega
  have htn : t < n := by omega
  have htm : (t : Int) < (n : Int) := by omega
  have ht0 : (0 : Int) ≤ (t : Int) := by omega
  clear h hx hy oth hpb hgb b1 hn
  go_enter Try.func16, Try.ntmps16
  go_wp2_with fail
  rw [← hwa, ← hb]
  clear hwa hb
  refine (plen_cell e3).mono ?_
  rintro e w1 ⟨rfl, rfl⟩
  go_upto_region 3 with fail
  have HL := Lib.hid (fun (W : World) (h : W.cell? ⟨p, 3, none⟩ = some (.slice (some ⟨g, 0, none⟩) n c)) => plen_cell h)
  go_region_held3 (fun W => W.cell? ⟨p, 3, none⟩ = some (.slice (some ⟨g, 0, none⟩) n c) ∧ W.cell? ⟨g, t * 2, none⟩ = some (.int .i64 x) ∧ W.cell? ⟨g, t * 2 + 1, none⟩ = some (.int .i64 y)) (first | exact ⟨e3, ex, ey⟩ | (rw [← hwb]; exact ⟨k3, kx, ky⟩)) ((refine (HL.out _ (by assumption)).mono ?_; rintro _ _ ⟨rfl, rfl⟩))
  all_goals
    rw [← hwb]
    clear hwb
    have r0 : wb.drew.cell? ⟨b, 0, none⟩ = some (.int .i64 x) := HC.out.1
    have r1 : wb.drew.cell? ⟨b, 1, none⟩ = some (.int .i64 y) := HC.out.2
    have HB2 := Lib.hid HB.out.drew
    go_wp2_with fail
    refine bodyPost_ret (v := .tuple #[.agg #[.int .i64 x, .int .i64 y], .bool true]) ?_ rfl ⟨rfl, HB2.out⟩
    simp [results, go_sem, r0, r1]
/-- The last one of a list. -/
theorem runs_last {w : World} {g : Nat} {l : List M.R} {r : M.R} (h : Runs w (some ⟨g, 0, none⟩) (l ++ [r])) : w.cell? ⟨g, l.length * 2, none⟩ = some (.int .i64 r.p) ∧ w.cell? ⟨g, l.length * 2 + 1, none⟩ = some (.int .i64 r.n) := by
  obtain ⟨bl, o, e, hc⟩ := h (by simp)
  cases e
  have := hc l.length (by simp)
  simpa using this
/-- The run on top, and whether there is one. -/
def topP : List M.R → Int
  | [] => 0
  | r :: _ => r.p
def topN : List M.R → Int
  | [] => 0
  | r :: _ => r.n
def topB : List M.R → Bool
  | [] => false
  | _ :: _ => true
theorem ptop_any (h : Pil D w0 w p s kd o L A c) (hl : L.length ≤ 900000) : Calls Try.prog 16 #[.pointer (some ⟨p, 0, none⟩)] w fun e w' => e = .returned (.tuple #[.agg #[.int .i64 (topP L), .int .i64 (topN L)], .bool (topB L)]) ∧ Below w.heap.size w w' := by
  cases L with
  | nil => exact ptop_none h.bx
  | cons r L =>
    obtain ⟨g, rfl⟩ := h.vw.some' (by simp)
    have hr := h.vw.runs
    rw [List.reverse_cons] at hr
    have q := runs_last hr
    rw [List.length_reverse] at q
    exact ptop_some h.bx (List.length_cons ..) (by rw [List.length_cons] at *; omega) q.1 q.2
set_option maxHeartbeats 4000000 in
theorem pnext_any (h : Pil D w0 w p s kd o L A c) (hl : L.length ≤ 900000) (hp : ∀ r ∈ L, 0 ≤ r.p ∧ r.p ≤ 1048576) : Calls Try.prog 26 #[.pointer (some ⟨p, 0, none⟩)] w fun e w' => e = .returned (.int .u64 (nx L : Int)) ∧ Below w.heap.size w w' := by
  have HT := Lib.hid (ptop_any h hl)
  cases L with
  | nil =>
    clear h hl hp
    have b1 := fun w1 : World => (Below.refl w1.heap.size w1).alloc (Nat.le_refl _) (.cells #[.int .i64 0, .int .i64 0] 34)
    have B1 := Lib.hid b1
    clear b1
    go_enter Try.func26, Try.ntmps26
    go_wp2_with fail
    refine HT.out.mono ?_
    rintro e w1 ⟨rfl, hb⟩
    have HB := Lib.hid (below_call hb (B1.out w1))
    clear hb
    simp only [topP, topN, topB]
    go_wp2_with fail
    go_ret
    exact ⟨rfl, HB.out⟩
  | cons r L =>
    obtain ⟨q, hq⟩ := Int.eq_ofNat_of_zero_le (hp r (List.mem_cons_self ..)).1
    have hq2 := (hp r (List.mem_cons_self ..)).2
    have e1 : r.p.toNat = q := by omega
    have HN := Lib.hid (show nx (r :: L) = q + 1 from by rw [← e1]; rfl)
    have hw1 : IntKind.u64.wrap (q : Int) = (q : Int) := by rw [wrapU]; omega
    have hw2 : IntKind.u64.wrap ((q : Int) + 1) = (q : Int) + 1 := by rw [wrapU]; omega
    have HQ := Lib.hid (show topP (r :: L) = (q : Int) from hq)
    clear h hl hp hq e1
    go_enter Try.func26, Try.ntmps26
    go_wp2_with fail
    refine HT.out.mono ?_
    rintro e w1 ⟨rfl, hb⟩
    rw [HQ.out, show topB (r :: L) = true from rfl]
    obtain ⟨y, hy⟩ : ∃ y, y = topN (r :: L) := ⟨_, rfl⟩
    rw [← hy]
    obtain ⟨w2, hw⟩ : ∃ w2, w2 = w1.alloc (.cells #[.int .i64 (q : Int), .int .i64 y] 34) := ⟨_, rfl⟩
    have b2 : Below w1.heap.size w1 w2 := by rw [hw]; exact (Below.refl w1.heap.size w1).alloc (Nat.le_refl _) _
    have c0 : w2.cell? ⟨w1.heap.size, 0, none⟩ = some (.int .i64 (q : Int)) := by rw [hw, World.cell?_alloc_mark]; rfl
    have HB := Lib.hid (below_call hb b2)
    clear hb b2 hy
    go_upto_region 2 with fail
    rw [← hw]
    clear hw
    go_wp2_with fail
    go_ret
    exact ⟨by rw [HN.out]; simp, HB.out⟩
end
end Go.Proofs.Ytmagdhcpbofkbaa
/-
  A pile, by the program: Push.
-/
namespace Go.Proofs.Ytmagdhcpbofkbaa
open Go.ChangeShapes Go.WideShapes Go.ChangeAt Go.RowKit Go.Deep
set_option linter.unusedVariables false
set_option maxRecDepth 20000

section
variable {D Q : Nat → Prop} {w0 w w5 w7 : World} {p s o c cc t a b P k g1 c1 : Nat} {kd : Int} {L G : List M.R} {r : M.R} {A : Option Addr} {Z : St} {v0 v1 v2 v3 : Value}
theorem Box4.set3 (h : Box4 w p v0 v1 v2 v3) (u : Value) : Box4 (w.setCell ⟨p, 3, none⟩ u) p v0 v1 v2 u :=
  ⟨(World.cell?_setCell_other _ _ _ _ (by simp)).trans h.c0, (World.cell?_setCell_other _ _ _ _ (by simp)).trans h.c1, (World.cell?_setCell_other _ _ _ _ (by simp)).trans h.c2, World.cell?_setCell_same _ _ _ h.c3, fun j => by rw [World.frozen?_setCell]; exact h.fz j⟩
/-- A link is laid. -/
theorem st_link (h : Sto D w0 w a b c P Z Q k) (x : Int) (q m : Nat) (hx : x = q) (hq : q < P) (hs : M.isH (M.rd Z.f (q * 4096) 32) = true) (hm : m < 18446744073709551616) (hT : Z.u ≤ 800000000000) :
    Calls Try.prog 25 #[.pointer (some ⟨b, 0, none⟩), .int .i64 x, .int .u64 (m : Int)] w fun e w' => e = .returned (.int .i64 0) ∧ Sto D w0 w' a b c P (Z.lnk q m) (Wid Q w w') k ∧ Kept w w' Q := by
  obtain ⟨O, h1, h2, h3, h4, h5⟩ := h.sp
  refine (link_hd h1 x q m hx hq hs hm hT).mono ?_
  rintro e w' ⟨rfl, hh, hk⟩
  exact ⟨rfl, h.bytes h2 h3 h4 h5 hh hk (fun x hx => hx)⟩
/-- Another list stands in the pile. -/
theorem Pil.put (hs : Sd D w0 w5 s a b c P Z Q k) (h : Pil D w0 w5 p s kd o L A cc) (ob : Obj) {L' : List M.R} (hv : View w7 w0.heap.size (some ⟨g1, 0, none⟩) c1 L'.reverse) (hg : rowD A g1 ∨ (w5.alloc ob).heap.size ≤ g1) (hk : Kept (w5.alloc ob) w7 (rowD A)) :
    Sd (fun x => D x ∨ x = g1) w0 (w7.setCell ⟨p, 3, none⟩ (.slice (some ⟨g1, 0, none⟩) L'.length c1)) s a b c P Z Q k ∧ Pil (fun x => D x ∨ x = g1) w0 (w7.setCell ⟨p, 3, none⟩ (.slice (some ⟨g1, 0, none⟩) L'.length c1)) p s kd o L' (some ⟨g1, 0, none⟩) c1 ∧
      Kept w5 (w7.setCell ⟨p, 3, none⟩ (.slice (some ⟨g1, 0, none⟩) L'.length c1)) (Ow p A) ∧ (∀ x, Ow p (some ⟨g1, 0, none⟩) x → Ow p A x ∨ w5.heap.size ≤ x) := by
  have hsz : (w5.alloc ob).heap.size = w5.heap.size + 1 := by simp
  have k57 : Kept w5 w7 (rowD A) := ((Kept.refl w5 (rowD A)).alloc ob).trans hk (fun _ _ e => e)
  have k58 : Kept w5 (w7.setCell ⟨p, 3, none⟩ (.slice (some ⟨g1, 0, none⟩) L'.length c1)) (Ow p A) := (k57.mono (fun x _ e => .inr e)).setCell (p := ⟨p, 3, none⟩) (fun _ => .inl rfl) _
  have gl := (hv.low (x := g1) ⟨_, rfl, rfl⟩).2
  have gsz : (w7.setCell ⟨p, 3, none⟩ (.slice (some ⟨g1, 0, none⟩) L'.length c1)).heap.size = w7.heap.size := by simp [World.setCell]
  have hpl := h.bx.lt
  have hpg : p ≠ g1 := fun e => hg.elim (fun e2 => h.pa (e ▸ e2)) (fun e2 => by omega)
  have one : ∀ x, rowD (some ⟨g1, 0, none⟩) x → x = g1 := fun x hx => by obtain ⟨ad, e, rfl⟩ := hx; cases e; rfl
  refine ⟨hs.side k58 h.own (fun x hx => ?_), ⟨(h.bx.kept k57 h.pa).set3 _, ?_, fun hx => hpg (one p hx), .inl h.dp, fun x hx => .inr (one x hx)⟩, k58, fun x hx => ?_⟩
  · rcases hx with hx | rfl
    · exact .inl hx
    · rcases hg with e | e
      · exact .inl (h.da _ e)
      · exact .inr ⟨by omega, by rw [gsz]; exact gl⟩
  · exact hv.kept ((Kept.refl w7 (fun x => x = p)).setCell (p := ⟨p, 3, none⟩) (fun _ => rfl) _) (fun x hx e => hpg (e.symm.trans (one x hx)))
  · rcases hx with rfl | hx
    · exact .inl (.inl rfl)
    · rw [one x hx]
      rcases hg with e | e
      · exact .inl (.inr e)
      · exact .inr (by omega)
theorem rnew14 (w : World) (p q : Int) : ∀ j u, (rc [⟨p, q⟩])[j]? = some u → (w.alloc (.cells #[.int .i64 p, .int .i64 q] 34)).cell? ((⟨w.heap.size, 0, none⟩ : Addr).add j) = some u := fun j u hu => by
  rw [Addr.add_lit, Nat.zero_add, (Blk.new w [.int .i64 p, .int .i64 q]).cell]
  exact hu
theorem Kept.trans' {w w1 w2 : World} {O O' : Nat → Prop} (h : Kept w w1 O) (g : Kept w1 w2 O') : Kept w w2 (fun x => O x ∨ O' x) := (h.mono (fun _ _ e => .inl e)).trans g (fun _ _ e => .inr e)
theorem nx_le {L : List M.R} {M' : Nat} (h : ∀ r ∈ L, 0 ≤ r.p ∧ r.p ≤ 1048576) : nx L ≤ 1048577 := by
  cases L with
  | nil => exact Nat.zero_le _
  | cons r L => have := h r (List.mem_cons_self ..); show r.p.toNat + 1 ≤ _; omega
set_option maxHeartbeats 8000000 in
theorem ppush_any (hs : Sd D w0 w s a b c P Z Q k) (h : Pil D w0 w p s kd o L A cc) (hk : k ≤ 80000) (hu : Z.u ≤ 700000000000) (hi : Inv P Z G) (hP : P ≤ 1048576) (hLG : ∀ r ∈ L, r ∈ G) (ho : o < 18446744073709551616) (hl : L.length ≤ 900000) (pages : Int) :
    Calls Try.prog 9 #[.pointer (some ⟨p, 0, none⟩), .int .i64 pages] w fun e w' => e = .returned (.tuple #[.int .i64 (gtP P Z pages kd), .int .i64 (gtN P Z pages kd), .int .i64 (gtE P Z pages kd)]) ∧ ∃ A' c' Q' D', Sd D' w0 w' s a b c P (Z.psh P L pages kd o) Q' (k + 30) ∧ Pil D' w0 w' p s kd o (pshL P Z L pages kd) A' c' ∧
      Kept w w' (fun x => Q x ∨ Ow p A x) ∧ (∀ x, Ow p A' x → Ow p A x ∨ w.heap.size ≤ x) ∧ (∀ x, D x → D' x) := by
  have hpos : ∀ r ∈ L, 0 ≤ r.p ∧ r.p ≤ 1048576 := fun r hr => by have := hi.in (hLG r hr); omega
  have HG := Lib.hid (hi.gt14 hP pages kd o ho)
  have HC := Lib.hid (fun W (hW : Chk D w0 W s a b c P Z Q k) => cgetA_any hW hk (by omega) hi pages kd o ho)
  have HN := Lib.hid (And.intro hpos (And.intro hl (And.intro (nx_le (M' := 0) hpos) hu)))
  have b1 := (Below.refl w.heap.size w).alloc (Nat.le_refl _) (.cells #[.pointer (some ⟨s, 0, none⟩), .int .i64 kd, .int .u64 (o : Int)] 65)
  obtain ⟨w1, hw1⟩ : ∃ z, z = w.alloc (.cells #[.pointer (some ⟨s, 0, none⟩), .int .i64 kd, .int .u64 (o : Int)] 65) := ⟨_, rfl⟩
  obtain ⟨v, hv⟩ : ∃ z, z = w.heap.size := ⟨_, rfl⟩
  have X1 := Lib.hid (show Bx3 w1 v (.pointer (some ⟨s, 0, none⟩)) (.int .i64 kd) (.int .u64 (o : Int)) ∧ ¬ Q v ∧ Below w.heap.size w w1 from by
    rw [← hw1] at b1
    exact ⟨by rw [hw1, hv]; exact Bx3.new _ _ _ _ _, fun e => by have := hs.chk.st.lt _ e; omega, b1⟩)
  have H1 := Lib.hid (show Sd D w0 w1 s a b c P Z Q k ∧ Pil D w0 w1 p s kd o L A cc from ⟨hs.below X1.out.2.2, h.below X1.out.2.2⟩)
  have c0 := h.bx.c0
  have c1 := h.bx.c1
  have c2 := h.bx.c2
  have HW := Lib.hid (And.intro hs h)
  clear hs h hk hu hi hP hLG ho hl hpos b1
  go_enter Try.func9, Try.ntmps9
  go_upto_region 4 with fail
  rw [← hw1, ← hv]
  clear hw1 hv c0 c1 c2
  have c0 := X1.out.1.c0
  have c1 := X1.out.1.c1
  have c2 := X1.out.1.c2
  go_wp2_with fail
  refine (HC.out _ H1.out.1.chk).mono ?_
  rintro e w2 ⟨rfl, hc2, hk2⟩
  have X2 := Lib.hid (X1.out.1.kept hk2 X1.out.2.1)
  have H2 := Lib.hid (show Sd D w0 w2 s a b c P (Z.gt P pages kd o) (Wid Q w1 w2) (k + 30) ∧ Pil D w0 w2 p s kd o L A cc ∧ Kept w w2 Q from ⟨H1.out.1.call hc2, H1.out.2.call H1.out.1 hk2, (Kept.of_below X1.out.2.2 Q).trans hk2 (fun _ _ e => e)⟩)
  clear hc2 hk2 c0 c1 c2
  obtain ⟨pv, hpv⟩ : ∃ z, z = gtP P Z pages kd := ⟨_, rfl⟩
  obtain ⟨nv, hnv⟩ : ∃ z, z = gtN P Z pages kd := ⟨_, rfl⟩
  obtain ⟨ev, hev⟩ : ∃ z, z = gtE P Z pages kd := ⟨_, rfl⟩
  rw [← hpv, ← hnv, ← hev]
  have HV := Lib.hid (And.intro hpv (And.intro hnv hev))
  clear hpv hnv hev
  by_cases e0 : ev = 0
  · subst e0
    rcases HG.out with ⟨ge, gi, gs, gn, gr, gu, _⟩ | ⟨ge, _⟩
    · have gin := gi.in (List.mem_cons_self ..)
      simp only at gin
      rw [← HV.out.1] at gin gs
      rw [← HV.out.2.1] at gin
      have c0 := X2.out.c0
      have HP := Lib.hid (show pv = (pv.toNat : Int) ∧ pv.toNat < P ∧ M.isH (M.rd (Z.gt P pages kd o).f (pv.toNat * 4096) 32) = true ∧ (Z.gt P pages kd o).u ≤ 800000000000 from ⟨by omega, by omega, gs.isH, by have := HN.out.2.2.2; omega⟩)
      clear ge gi gs gn gr gu gin
      go_wp2_with fail
      refine (cspace_any H2.out.1.chk).mono ?_
      rintro e w3 ⟨rfl, b3⟩
      have H3 := Lib.hid (show Sd D w0 w3 s a b c P (Z.gt P pages kd o) (Wid Q w1 w2) (k + 30) ∧ Pil D w0 w3 p s kd o L A cc ∧ Kept w w3 Q from ⟨H2.out.1.below b3, H2.out.2.1.below b3, H2.out.2.2.trans (Kept.of_below b3 Q) (fun _ _ e => e)⟩)
      clear b3
      go_wp2_with fail
      refine (pnext_any H3.out.2.1 HN.out.2.1 HN.out.1).mono ?_
      rintro e w4 ⟨rfl, b4⟩
      have H4 := Lib.hid (show Sd D w0 w4 s a b c P (Z.gt P pages kd o) (Wid Q w1 w2) (k + 30) ∧ Pil D w0 w4 p s kd o L A cc ∧ Kept w w4 Q from ⟨H3.out.1.below b4, H3.out.2.1.below b4, H3.out.2.2.trans (Kept.of_below b4 Q) (fun _ _ e => e)⟩)
      clear b4
      go_wp2_with fail
      refine (st_link H4.out.1.chk.st pv pv.toNat (nx L) HP.out.1 HP.out.2.1 HP.out.2.2.1 (by have := HN.out.2.2.1; omega) HP.out.2.2.2).mono ?_
      rintro e w5 ⟨rfl, hh, hk5⟩
      have H5 := Lib.hid (show Sd D w0 w5 s a b c P ((Z.gt P pages kd o).lnk pv.toNat (nx L)) (Wid (Wid Q w1 w2) w4 w5) (k + 30) ∧ Pil D w0 w5 p s kd o L A cc ∧ Kept w w5 Q from ⟨H4.out.1.part hh hk5 (fun x e => e.imp id (fun e => e.1)), H4.out.2.1.call H4.out.1 hk5, H4.out.2.2.grow hk5 (fun x e => e.elim .inl (fun e => .inr (Nat.le_trans X1.out.2.2.size e.1)))⟩)
      clear hh hk5
      obtain ⟨w6, hw6⟩ : ∃ z, z = w5.alloc (.cells #[.int .i64 pv, .int .i64 nv] 34) := ⟨_, rfl⟩
      have b6 : Below w5.heap.size w5 w6 := by rw [hw6]; exact (Below.refl w5.heap.size w5).alloc (Nat.le_refl _) _
      have H6 := Lib.hid (show Pil D w0 w6 p s kd o L A cc ∧ (∀ j u, (rc [⟨pv, nv⟩])[j]? = some u → w6.cell? ((⟨w5.heap.size, 0, none⟩ : Addr).add j) = some u) ∧ w0.heap.size ≤ w6.heap.size ∧ w6 = w5.alloc (.cells #[.int .i64 pv, .int .i64 nv] 34) from ⟨H5.out.2.1.below b6, by rw [hw6]; exact rnew14 w5 pv nv, Nat.le_trans H5.out.1.bel.size b6.size, hw6⟩)
      have c3 := H5.out.2.1.bx.c3
      have d3 := H6.out.1.bx.c3
      clear b6 c0
      go_upto_region 8 with fail
      go_wp2_with (at_builtin; rw [← hw6]; refine wpList_app_view rfl _ _ rfl w6 w0.heap.size A L.length cc L.reverse rfl (by simp) H6.out.1.vw _ _ pv nv rfl H6.out.2.1 (by have := HN.out.2.1; omega) H6.out.2.2.1 ?_; clear hw6; intro g1 c1 w7 hv7 hg7 hk7; (have HAP := Lib.hid (And.intro hv7 (And.intro hg7 hk7))); (have q7 := H6.out.1.bx.kept hk7 H6.out.1.pa); (have e3 := q7.c3); (have f3 := q7.fz 3); clear hv7 hg7 hk7 q7 d3)
      go_ret3
      have hr : Ending.returned (Value.tuple #[.int .i64 pv, .int .i64 nv, .int .i64 0]) = .returned (.tuple #[.int .i64 (gtP P Z pages kd), .int .i64 (gtN P Z pages kd), .int .i64 (gtE P Z pages kd)]) := by rw [← HV.out.1, ← HV.out.2.1, ← HV.out.2.2]
      have e1 : gtE P Z pages kd = 0 := HV.out.2.2.symm
      have hap := HAP.out
      rw [H6.out.2.2.2] at hap
      have q := Pil.put (L' := ⟨pv, nv⟩ :: L) H5.out.1 H5.out.2.1 _ (by rw [List.reverse_cons]; exact hap.1) hap.2.1 hap.2.2
      have hz : Z.psh P L pages kd o = (Z.gt P pages kd o).lnk pv.toNat (nx L) ∧ pshL P Z L pages kd = ⟨pv, nv⟩ :: L := ⟨by unfold St.psh; rw [if_pos e1, ← HV.out.1], by unfold pshL; rw [if_pos e1, ← HV.out.1, ← HV.out.2.1]⟩
      rw [hz.1, hz.2]
      have hsz := H5.out.2.2.size
      exact ⟨hr, _, _, _, _, q.1, q.2.1, H5.out.2.2.trans' q.2.2.1, fun x hx => (q.2.2.2 x hx).imp id (fun e => by omega), fun x hx => .inl hx⟩
    · exfalso
      have := HV.out.2.2
      omega
  · rcases HG.out with ⟨ge, _⟩ | ⟨ge, gp, gn, gi, gf, gu⟩
    · exact absurd (HV.out.2.2.trans ge) e0
    · have t0 : (ev == 0) = false := by simpa using e0
      have e1 : gtE P Z pages kd ≠ 0 := fun e => e0 (HV.out.2.2.trans e)
      have HR := Lib.hid (show pv = 0 ∧ nv = 0 ∧ Z.psh P L pages kd o = Z.gt P pages kd o ∧ pshL P Z L pages kd = L from ⟨HV.out.1.trans gp, HV.out.2.1.trans gn, by unfold St.psh; rw [if_neg e1], by unfold pshL; rw [if_neg e1]⟩)
      clear ge gp gn gi gf gu e1
      go_wp2_with fail
      go_ret3
      rw [HR.out.2.2.1, HR.out.2.2.2]
      have hr : Ending.returned (Value.tuple #[.int .i64 0, .int .i64 0, .int .i64 ev]) = .returned (.tuple #[.int .i64 (gtP P Z pages kd), .int .i64 (gtN P Z pages kd), .int .i64 (gtE P Z pages kd)]) := by rw [← HV.out.1, ← HV.out.2.1, ← HV.out.2.2, HR.out.1, HR.out.2.1]
      exact ⟨hr, A, cc, _, D, H2.out.1, H2.out.2.1, H2.out.2.2.mono (fun x _ e => .inl e), fun x e => .inl e, fun x e => e⟩
end
end Go.Proofs.Ytmagdhcpbofkbaa
