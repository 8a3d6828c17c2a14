/-
  What PileWalk goes by.
-/
import Derived.Test.YtmagdhcpbofkbaaK15
namespace Go.Proofs.Ytmagdhcpbofkbaa
open Go.ChangeShapes Go.WideShapes Go.ChangeAt Go.RowKit Go.Deep
set_option linter.unusedVariables false
set_option maxRecDepth 20000

section
variable {w0 w w' : World} {B c t : Nat} {A : Option Addr} {l : List M.R} {R : Nat → Prop}
theorem Runs.keptR (h : Runs w A l) (hk : Kept w w' (fun x => ¬ R x ∧ w0.heap.size ≤ x)) (hR : ∀ x, rowD A x → R x) : Runs w' A l := fun hl => by
  obtain ⟨bl, o, e, hc⟩ := h hl
  have hr := hR bl ⟨_, e, rfl⟩
  exact ⟨bl, o, e, fun i hi => ⟨hk.cell_some (hc i hi).1 (fun e => e.1 hr), hk.cell_some (hc i hi).2 (fun e => e.1 hr)⟩⟩
theorem rcut14_one {L : List M.R} {r : M.R} {A : Option Addr} {c : Nat} (t : Nat) (ht : t = (r :: L).length) (hc : t ≤ c) : ∃ A', (∀ W, (Instr.slice 29 (.slice A t c) (some (.int .i64 1)) none none).run Try.prog W = .ok (.slice A' (t - 1) (c - 1)) W) ∧ (∀ W, Runs W A (r :: L) → Runs W A' L) ∧ (∀ x, rowD A' x → rowD A x) := by
  have h1 : 1 ≤ t := by rw [ht]; simp
  refine ⟨if c = 1 then A else A.map (·.add (1 * 2)), fun W => by
    have := run_slice_l W 29 A t c rund14 .i64 1 (by omega) (by omega)
    rw [this, relem14, rsize14]
    simp only [Result.andThen_ok, sliced]
    rfl, fun W h hl => ?_, fun x hx => ?_⟩
  · have h2 : 1 < (r :: L).length := by simp; omega
    obtain ⟨bl, o, rfl, hcs⟩ := h (by omega)
    rw [if_neg (by omega)]
    refine ⟨bl, o + 2, by simp [Addr.add_lit], fun j hj => ?_⟩
    have := hcs (j + 1) (by simpa using hj)
    rw [show o + 2 + j * 2 = o + (j + 1) * 2 by omega]
    simpa using this
  · split at hx
    · exact hx
    · obtain ⟨ad, e, rfl⟩ := hx
      cases A with
      | none => cases e
      | some a => cases e; exact ⟨a, rfl, by unfold Addr.add; split <;> rfl⟩
/-- 'append([]Run{r}, l...)'. -/
theorem run_app0_14 (w : World) (ty : TypeId) (A : Option Addr) (n c : Nat) (hn : n ≤ c) (B : Option Addr) (mc : Nat) : (Builtin.append_ #[29, 29] ty #[.slice A n c, .slice B 0 mc]).run Try.prog w = .ok (.slice A n c) w := by
  obtain ⟨i, hi, hz, hs, hb⟩ := info36
  have hl : ∀ (x : Addr), (loadCells x 0).run Try.prog w = .ok #[] w := fun x => by simpa using run_loadCells_list (P := Try.prog) w x [] (by simp)
  cases A <;> cases B <;> simp [Builtin.append_, run_underlying Try.underlying29, Builtin.lenOf, Builtin.firstCells, sizeOf, typeInfo, hi, hs, hn, hl, storeCells]
theorem wpList_app_front {ops : Array Oper} {rest : List Oper} {o : Oper} {a : Act} {Q : Exit → Act → World → Prop} (hgd : o.guard = none) (s x : Operand) (ho : o.op = .call { callee := .builtin .append, args := #[s, x], argTypes := #[29, 29] })
    (v w : World) (p n : Int) (g : Nat) (hv : w = v.alloc (.cells #[.int .i64 p, .int .i64 n] 34)) (hg : g = v.heap.size) (hs : a.eval s = .slice (some ⟨g, 0, none⟩) 1 1)
    (A2 : Option Addr) (m c2 : Nat) (S : List M.R) (hx : a.eval x = .slice A2 m c2) (hm : m = S.length) (hR : Runs w A2 S) (h1 : m ≤ 100000)
    (h : ∀ g1 c1 w', View w' v.heap.size (some ⟨g1, 0, none⟩) c1 (⟨p, n⟩ :: S) → Below v.heap.size v w' → m + 1 ≤ c1 → wpList Try.prog ops Q rest (a.put o.dst (.slice (some ⟨g1, 0, none⟩) (m + 1) c1)) w') : wpList Try.prog ops Q (o :: rest) a w := by
  have hb : Below v.heap.size v w := by rw [hv]; exact (Below.refl _ _).alloc (Nat.le_refl _) _
  have hblk : Blk w g [.int .i64 p, .int .i64 n] := by rw [hv, hg]; exact Blk.new v _
  have hm1 : MineR w v.heap.size (some ⟨g, 0, none⟩) [⟨p, n⟩] 1 := .inr ⟨g, _, rfl, by omega, hblk, by simp, by unfold maxLen; omega, rfl, rfl⟩
  rcases Nat.eq_zero_or_pos m with h0 | h0
  · subst h0
    have hS : S = [] := List.length_eq_zero_iff.1 hm.symm
    subst hS
    refine Lib.wpList_append_run w hgd s x _ _ ho (.slice (some ⟨g, 0, none⟩) 1 1) (.slice A2 0 c2) hs hx (.slice (some ⟨g, 0, none⟩) 1 1) w (run_app0_14 w _ _ 1 1 (by omega) A2 c2) ?_
    exact h g 1 w (.inl hm1) hb (by omega)
  · obtain ⟨bl, o2, rfl, hc⟩ := hR (by omega)
    obtain ⟨i, hi, hi0, hi1, hi2⟩ := info36
    refine wpList_append_lies w hgd s x 29 ho v.heap.size 34 i (.agg #[.int .i64 0, .int .i64 0]) 2 16 Try.underlying29 hi hi0 hi1 hi2 rfl (by decide) (.slice (some ⟨g, 0, none⟩) 1 1) 1 (rc [⟨p, n⟩]) hs (owns_of hm1) ⟨bl, o2, none⟩ m c2 (rc S) hx (by rw [rc_length, hm]) (fun j u hu => by rw [Addr.add_lit]; exact runs_cells hc j u hu) (rc_one _) h0 (by unfold maxLen; omega) (by omega) hb.size _ rfl ?_
    intro g1 c1 w' hrow hgr hat hlt
    have hmine := mine_of (n := 1 + m) (l := [⟨p, n⟩] ++ S) (by rw [List.length_append, hm]; rfl) (by rw [rc_append]; exact hrow)
    have hv' : View w' v.heap.size (some ⟨g1, 0, none⟩) c1 (⟨p, n⟩ :: S) := .inl hmine
    rw [show 1 + m = m + 1 by omega]
    exact h g1 c1 w' hv' (hb.grown hgr hb.size (fun k hk => by simp [Value.ownBlock] at hk; omega)) (by have := hv'.cap; rw [List.length_cons, ← hm] at this; exact this)
end

/-- How much two piles have, and how many free runs there may be. -/
structure Lw (Z : St) (L1 L2 : List M.R) (T : Int) (U N : Nat) : Prop where
  tot : M.total (L1 ++ L2) ≤ T
  len : Z.l.length + (M.all Z.K).length ≤ 1
  tk : Z.u ≤ U
  l1 : L1.length ≤ N
  l2 : L2.length ≤ N
section
variable {P k1 o1 k2 o2 U N : Nat} {T : Int} {Z : St} {L1 L2 : List M.R} {r : M.R}
theorem Lw.new (P : Nat) : Lw (St.new P) [] [] 0 0 0 := ⟨by simp [M.total], (Lim.new P).len, by simp [St.new], by simp, by simp⟩
theorem Lw.swap (h : Lw Z L1 L2 T U N) : Lw Z L2 L1 T U N := ⟨by rw [M.total_perm (List.perm_append_comm (l₁ := L2) (l₂ := L1))]; exact h.tot, h.len, h.tk, h.l2, h.l1⟩
theorem Lw.more (h : Lw Z L1 L2 T U N) {T' : Int} {U' N' : Nat} (h1 : T ≤ T') (h2 : U ≤ U') (h3 : N ≤ N') : Lw Z L1 L2 T' U' N' := ⟨by have := h.tot; omega, h.len, by have := h.tk; omega, by have := h.l1; omega, by have := h.l2; omega⟩
theorem Lw.push (hl : Lw Z L1 L2 T U N) (h : Duo P Z k1 o1 L1 k2 o2 L2) (hP : P ≤ 1048576) (hk : k1 ≤ 255) (ho : o1 < 18446744073709551616) {pages : Int} (h1 : 1 ≤ pages) (h2 : pages ≤ 70) (hr : T + 69 < P) :
    gtE P Z pages k1 = 0 ∧ pshL P Z L1 pages k1 = ⟨gtP P Z pages k1, gtN P Z pages k1⟩ :: L1 ∧ Lw (Z.psh P L1 pages k1 o1) (⟨gtP P Z pages k1, gtN P Z pages k1⟩ :: L1) L2 (T + M.ckN pages) (U + 3) (N + 1) := by
  have e := gt_room h.inv hP (kind := (k1 : Int)) (o := o1) h1 h2 (by omega) (by omega) ho 1 hl.len (by have := hl.tot; omega)
  have hg := glen14 (P := P) h.inv.good pages (k1 : Int) o1
  have hz : (Z.psh P L1 pages k1 o1).l = (Z.gt P pages k1 o1).l ∧ (Z.psh P L1 pages k1 o1).K = (Z.gt P pages k1 o1).K ∧ (Z.psh P L1 pages k1 o1).u = (Z.gt P pages k1 o1).u + 2 := by unfold St.psh; rw [if_pos e]; exact ⟨rfl, rfl, rfl⟩
  rcases h.inv.gt14 hP pages (k1 : Int) o1 ho with ⟨_, _, _, en, _, eu, _⟩ | ⟨e2, _⟩
  · refine ⟨e, by unfold pshL; rw [if_pos e], ?_, by rw [hz.1, hz.2.1]; have := hl.len; omega, by rw [hz.2.2, eu]; have := hl.tk; omega, by have := hl.l1; simp only [List.length_cons]; omega, by have := hl.l2; omega⟩
    have h7 : M.total ((⟨gtP P Z pages k1, gtN P Z pages k1⟩ :: L1) ++ L2) = M.ckN pages + M.total (L1 ++ L2) := by rw [List.cons_append, M.total_cons, en]
    rw [h7]
    have := hl.tot
    omega
  · omega
theorem ck1 : M.ckN 1 = 1 := by decide
end
end Go.Proofs.Ytmagdhcpbofkbaa
