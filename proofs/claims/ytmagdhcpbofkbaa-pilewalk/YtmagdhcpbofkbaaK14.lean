/-
  Two piles of one Store, and blocks of a law's own beside them.
-/
import Derived.Test.YtmagdhcpbofkbaaK13
import Derived.Test.YtmagdhcpbofkbaaK1
import Derived.Deep.Slices
import Derived.Deep.Fields
namespace Go.Proofs.Ytmagdhcpbofkbaa
open Go.ChangeShapes Go.WideShapes Go.ChangeAt Go.RowKit Go.Deep
set_option linter.unusedVariables false
set_option maxRecDepth 20000

/-- Two piles of one Store (p2 = 0: there is only one), R: blocks of the law's own. -/
structure T2 (w0 w : World) (s a b c P : Nat) (Z : St) (Q D R : Nat → Prop) (k p1 k1 o1 : Nat) (L1 : List M.R) (A1 : Option Addr) (c1 p2 k2 o2 : Nat) (L2 : List M.R) (A2 : Option Addr) (c2 : Nat) : Prop where
  sd : Sd D w0 w s a b c P Z Q k
  m1 : Pil D w0 w p1 s (k1 : Int) o1 L1 A1 c1
  m2 : p2 ≠ 0 → Pil D w0 w p2 s (k2 : Int) o2 L2 A2 c2
  du : Duo P Z k1 o1 L1 k2 o2 L2
  ap : p2 ≠ 0 → ∀ x, Ow p1 A1 x → ¬ Ow p2 A2 x
  rd : ∀ x, R x → D x
  r1 : ∀ x, R x → ¬ Ow p1 A1 x
  r2 : p2 ≠ 0 → ∀ x, R x → ¬ Ow p2 A2 x
structure St2 (w0 w : World) (s a b c P : Nat) (Z : St) (R : Nat → Prop) (k p1 k1 o1 : Nat) (L1 : List M.R) (p2 k2 o2 : Nat) (L2 : List M.R) : Prop where
  ex : ∃ Q D A1 c1 A2 c2, T2 w0 w s a b c P Z Q D R k p1 k1 o1 L1 A1 c1 p2 k2 o2 L2 A2 c2
section
variable {w0 w w' : World} {s a b c P k k' p1 k1 o1 p2 k2 o2 c1 c2 : Nat} {Z Z' : St} {R R' O Q D : Nat → Prop} {L1 L2 : List M.R} {r : M.R} {A1 A2 : Option Addr}
theorem St2.swap (h : St2 w0 w s a b c P Z R k p1 k1 o1 L1 p2 k2 o2 L2) (h2 : p2 ≠ 0) : St2 w0 w s a b c P Z R k p2 k2 o2 L2 p1 k1 o1 L1 := by
  obtain ⟨Q, D, A1, c1, A2, c2, h⟩ := h.ex
  exact ⟨Q, D, A2, c2, A1, c1, h.sd, h.m2 h2, fun _ => h.m1, h.du.swap, fun _ x e2 e1 => h.ap h2 x e1 e2, h.rd, h.r2 h2, fun _ => h.r1⟩
theorem St2.du (h : St2 w0 w s a b c P Z R k p1 k1 o1 L1 p2 k2 o2 L2) : Duo P Z k1 o1 L1 k2 o2 L2 := by obtain ⟨_, _, _, _, _, _, h⟩ := h.ex; exact h.du
theorem St2.bel (h : St2 w0 w s a b c P Z R k p1 k1 o1 L1 p2 k2 o2 L2) : Below w0.heap.size w0 w := by obtain ⟨_, _, _, _, _, _, h⟩ := h.ex; exact h.sd.bel
theorem St2.bounds (h : St2 w0 w s a b c P Z R k p1 k1 o1 L1 p2 k2 o2 L2) : 1 ≤ P ∧ P ≤ 1048576 := by obtain ⟨_, _, _, _, _, _, h⟩ := h.ex; exact h.sd.chk.st.bounds
theorem St2.rlt (h : St2 w0 w s a b c P Z R k p1 k1 o1 L1 p2 k2 o2 L2) : ∀ x, R x → x < w.heap.size ∧ w0.heap.size ≤ x := by obtain ⟨_, _, _, _, _, _, h⟩ := h.ex; exact fun x hx => ⟨h.sd.dl x (h.rd x hx), (h.sd.off x (h.rd x hx)).2.2⟩
theorem St2.more (h : St2 w0 w s a b c P Z R k p1 k1 o1 L1 p2 k2 o2 L2) (hk : k ≤ k') : St2 w0 w s a b c P Z R k' p1 k1 o1 L1 p2 k2 o2 L2 := by
  obtain ⟨Q, D, A1, c1, A2, c2, h⟩ := h.ex
  exact ⟨Q, D, A1, c1, A2, c2, h.sd.more hk, h.m1, h.m2, h.du, h.ap, h.rd, h.r1, h.r2⟩
theorem St2.below (h : St2 w0 w s a b c P Z R k p1 k1 o1 L1 p2 k2 o2 L2) (hb : Below w.heap.size w w') : St2 w0 w' s a b c P Z R k p1 k1 o1 L1 p2 k2 o2 L2 := by
  obtain ⟨Q, D, A1, c1, A2, c2, h⟩ := h.ex
  exact ⟨Q, D, A1, c1, A2, c2, h.sd.below hb, h.m1.below hb, fun e => (h.m2 e).below hb, h.du, h.ap, h.rd, h.r1, h.r2⟩
/-- The law's own blocks are written, or new ones; those that are its own then. -/
theorem St2.own (h : St2 w0 w s a b c P Z R k p1 k1 o1 L1 p2 k2 o2 L2) (hk : Kept w w' O) (hO : ∀ x, O x → R x) (hR : ∀ x, R' x → R x ∨ (w.heap.size ≤ x ∧ x < w'.heap.size)) : St2 w0 w' s a b c P Z R' k p1 k1 o1 L1 p2 k2 o2 L2 := by
  obtain ⟨Q, D, A1, c1, A2, c2, h⟩ := h.ex
  refine ⟨Q, fun x => D x ∨ R' x, A1, c1, A2, c2, h.sd.side hk (fun x e => h.rd x (hO x e)) (fun x e => e.elim .inl (fun e => (hR x e).imp (h.rd x) id)), (h.m1.kept hk (fun x e e2 => h.r1 x (hO x e2) e)).more (fun x e => .inl e), fun e2 => ((h.m2 e2).kept hk (fun x e e3 => h.r2 e2 x (hO x e3) e)).more (fun x e => .inl e), h.du, h.ap, fun x e => .inr e, fun x e e1 => ?_, fun e2 x e e1 => ?_⟩
  · rcases hR x e with hx | hx
    · exact h.r1 x hx e1
    · have := h.m1.lt x e1; omega
  · rcases hR x e with hx | hx
    · exact h.r2 e2 x hx e1
    · have := (h.m2 e2).lt x e1; omega
/-- Fewer blocks are the law's own. -/
theorem St2.less (h : St2 w0 w s a b c P Z R k p1 k1 o1 L1 p2 k2 o2 L2) (hR : ∀ x, R' x → R x) : St2 w0 w s a b c P Z R' k p1 k1 o1 L1 p2 k2 o2 L2 :=
  h.own (Kept.refl w (fun _ => False)) (fun x e => e.elim) (fun x e => .inl (hR x e))
/-- The Store answered. -/
theorem T2.call (h : T2 w0 w s a b c P Z Q D R k p1 k1 o1 L1 A1 c1 p2 k2 o2 L2 A2 c2) (hc : Chk D w0 w' s a b c P Z' (Wid Q w w') k') (hk : Kept w w' Q) (hd : Duo P Z' k1 o1 L1 k2 o2 L2) :
    St2 w0 w' s a b c P Z' R k' p1 k1 o1 L1 p2 k2 o2 L2 ∧ Kept w w' (fun x => ¬ R x ∧ w0.heap.size ≤ x) :=
  ⟨⟨_, D, A1, c1, A2, c2, h.sd.call hc, h.m1.call h.sd hk, fun e => (h.m2 e).call h.sd hk, hd, h.ap, h.rd, h.r1, h.r2⟩, hk.mono (fun x _ e => ⟨fun r => (h.sd.off x (h.rd x r)).1 e, h.sd.chk.st.old x e⟩)⟩
/-- The first pile answered. -/
theorem T2.one (h : T2 w0 w s a b c P Z Q D R k p1 k1 o1 L1 A1 c1 p2 k2 o2 L2 A2 c2) {Q' D' : Nat → Prop} {A' : Option Addr} {c' : Nat} {L' : List M.R} (hs : Sd D' w0 w' s a b c P Z' Q' k') (hp : Pil D' w0 w' p1 s (k1 : Int) o1 L' A' c') (hk : Kept w w' (fun x => Q x ∨ Ow p1 A1 x))
    (hA : ∀ x, Ow p1 A' x → Ow p1 A1 x ∨ w.heap.size ≤ x) (hD : ∀ x, D x → D' x) (hd : Duo P Z' k1 o1 L' k2 o2 L2) :
    St2 w0 w' s a b c P Z' R k' p1 k1 o1 L' p2 k2 o2 L2 ∧ Kept w w' (fun x => ¬ R x ∧ w0.heap.size ≤ x) := by
  refine ⟨⟨_, D', A', c', A2, c2, hs, hp, fun e2 => ((h.m2 e2).kept hk (fun x e e1 => e1.elim ((h.sd.off x ((h.m2 e2).own x e)).1) (fun e1 => h.ap e2 x e1 e))).more hD, hd, fun e2 x e1 e3 => ?_, fun x e => hD x (h.rd x e), fun x e e1 => ?_, h.r2⟩, hk.mono (fun x _ e => ⟨fun r => ?_, ?_⟩)⟩
  · rcases hA x e1 with e | e
    · exact h.ap e2 x e e3
    · have := (h.m2 e2).lt x e3; omega
  · rcases hA x e1 with e3 | e3
    · exact h.r1 x e e3
    · have := h.sd.dl x (h.rd x e); omega
  · exact e.elim (h.sd.off x (h.rd x r)).1 (h.r1 x r)
  · exact e.elim (h.sd.chk.st.old x) (fun e => (h.sd.off x (h.m1.own x e)).2.2)
end

/-! The calls. -/
section
variable {w0 w : World} {s a b c P k p1 k1 o1 p2 k2 o2 : Nat} {Z : St} {R : Nat → Prop} {L1 L2 : List M.R} {r : M.R}
theorem t_push (h : St2 w0 w s a b c P Z R k p1 k1 o1 L1 p2 k2 o2 L2) (hk : k ≤ 80000) (hu : Z.u ≤ 600000000000) (ho : o1 < 18446744073709551616) (hl : L1.length ≤ 800000) (pages : Int) :
    Calls Try.prog 9 #[.pointer (some ⟨p1, 0, none⟩), .int .i64 pages] w fun e w' => e = .returned (.tuple #[.int .i64 (gtP P Z pages k1), .int .i64 (gtN P Z pages k1), .int .i64 (gtE P Z pages k1)]) ∧ St2 w0 w' s a b c P (Z.psh P L1 pages k1 o1) R (k + 30) p1 k1 o1 (pshL P Z L1 pages k1) p2 k2 o2 L2 ∧ Kept w w' (fun x => ¬ R x ∧ w0.heap.size ≤ x) := by
  have hb := h.bounds
  obtain ⟨Q, D, A1, c1, A2, c2, h⟩ := h.ex
  refine (ppush_any h.sd h.m1 hk (by omega) h.du.inv hb.2 (fun r hr => List.mem_append.2 (.inl hr)) ho (by omega) pages).mono ?_
  rintro e w' ⟨rfl, A', c', Q', D', h1, h2, h3, h4, h5⟩
  exact ⟨rfl, h.one h1 h2 h3 h4 h5 (h.du.psh hb.2 pages ho)⟩
theorem t_pop (h : St2 w0 w s a b c P Z R k p1 k1 o1 (r :: L1) p2 k2 o2 L2) (hk : k ≤ 80000) (hu : Z.u ≤ 600000000000) (hl : L1.length ≤ 800000) :
    Calls Try.prog 10 #[.pointer (some ⟨p1, 0, none⟩)] w fun e w' => e = .returned (.tuple #[.int .i64 r.p, .int .i64 r.n, .int .i64 0]) ∧ St2 w0 w' s a b c P (Z.pop P r) R (k + 1) p1 k1 o1 L1 p2 k2 o2 L2 ∧ Kept w w' (fun x => ¬ R x ∧ w0.heap.size ≤ x) := by
  have hb := h.bounds
  obtain ⟨Q, D, A1, c1, A2, c2, h⟩ := h.ex
  refine (ppop_any (G := L1 ++ L2) h.sd h.m1 hk hu h.du.inv hb.2 hl).mono ?_
  rintro e w' ⟨rfl, c', Q', D', h1, h2, h3, h4, h5⟩
  exact ⟨rfl, h.one h1 h2 (h3.mono (fun x _ e => e.imp id .inl)) (fun x e => .inl e) h4 h.du.pop⟩
theorem t_pop_none (h : St2 w0 w s a b c P Z R k p1 k1 o1 [] p2 k2 o2 L2) :
    Calls Try.prog 10 #[.pointer (some ⟨p1, 0, none⟩)] w fun e w' => e = .returned (.tuple #[.int .i64 0, .int .i64 0, .int .i64 1]) ∧ Below w.heap.size w w' := by
  obtain ⟨Q, D, A1, c1, A2, c2, h⟩ := h.ex
  have HT := Lib.hid (ptop_any h.m1 (by simp))
  clear h
  have B1 := Lib.hid (fun w1 : World => (Below.refl w1.heap.size w1).alloc (Nat.le_refl _) (.cells #[.int .i64 0, .int .i64 0] 34))
  go_enter Try.func10, Try.ntmps10
  go_wp2_with fail
  refine HT.out.mono ?_
  rintro e w1 ⟨rfl, hb⟩
  have HB := Lib.hid (below_call hb (B1.out w1))
  clear hb
  simp only [topP, topN, topB]
  go_wp2_with fail
  go_ret3
  exact ⟨rfl, HB.out⟩
theorem t_cut (h : St2 w0 w s a b c P Z R k p1 k1 o1 L1 p2 k2 o2 L2) (hk : k + L1.length ≤ 80000) (hu : Z.u + 4 * L1.length ≤ 600000000000) (hl : L1.length ≤ 800000) (n : Int) (m j : Nat) (hn : n = m) (hj : j = L1.length - m) :
    Calls Try.prog 17 #[.pointer (some ⟨p1, 0, none⟩), .int .i64 n] w fun e w' => e = .returned (.int .i64 0) ∧ St2 w0 w' s a b c P (popsZ P Z L1 j) R (k + j) p1 k1 o1 (L1.drop j) p2 k2 o2 L2 ∧ Kept w w' (fun x => ¬ R x ∧ w0.heap.size ≤ x) := by
  have hb := h.bounds
  obtain ⟨Q, D, A1, c1, A2, c2, h⟩ := h.ex
  refine (pcut_any h.sd h.m1 h.du hk hu hb.2 hl n m hn j hj).mono ?_
  rintro e w' ⟨rfl, c', Q', D', h1, h2, h3, h4, h5⟩
  exact ⟨rfl, h.one h1 h2 (h3.mono (fun x _ e => e.imp id .inl)) (fun x e => .inl e) h4 (h.du.pops j)⟩
theorem t_walk (h : St2 w0 w s a b c P Z R k p1 k1 o1 L1 p2 k2 o2 L2) (hk : k ≤ 80000) (hu : Z.u + L1.length ≤ 600000000000) (hl : L1.length ≤ 800000) :
    Calls Try.prog 11 #[.pointer (some ⟨p1, 0, none⟩)] w fun e w' => ∃ t A' c', e = .returned (.tuple #[.slice A' t c', .int .i64 0]) ∧ t = L1.length ∧ St2 w0 w' s a b c P { Z with u := Z.u + t } (fun x => R x ∨ rowD A' x) k p1 k1 o1 L1 p2 k2 o2 L2 ∧ View w' w.heap.size A' c' L1 ∧ Kept w w' (fun x => ¬ R x ∧ w0.heap.size ≤ x) := by
  have hb := h.bounds
  obtain ⟨Q, D, A1, c1, A2, c2, h⟩ := h.ex
  refine (pwalk_any h.sd h.m1 h.du hk hu hb.2 hl).mono ?_
  rintro e w' ⟨t, A', c', Q', D', rfl, rfl, hw⟩
  have hv := hw.vw
  rw [List.take_length] at hv
  have q := h.one hw.sd hw.pl (hw.kp.mono (fun x _ e => .inl e)) (fun x e => .inl e) hw.dd (h.du.read _)
  refine ⟨_, A', c', rfl, rfl, ?_, hv, q.2⟩
  refine ⟨Q', D', A1, c1, A2, c2, hw.sd, hw.pl, fun e2 => ((h.m2 e2).kept hw.kp (fun x e => (h.sd.off x ((h.m2 e2).own x e)).1)).more hw.dd, h.du.read _, h.ap, fun x e => e.elim (fun e => hw.dd x (h.rd x e)) (hw.dA x), fun x e e1 => ?_, fun e2 x e e1 => ?_⟩
  · rcases e with e | e
    · exact h.r1 x e e1
    · have := (hv.low e).1; have := h.m1.lt x e1; omega
  · rcases e with e | e
    · exact h.r2 e2 x e e1
    · have := (hv.low e).1; have := (h.m2 e2).lt x e1; omega
theorem t_len (h : St2 w0 w s a b c P Z R k p1 k1 o1 L1 p2 k2 o2 L2) : Calls Try.prog 13 #[.pointer (some ⟨p1, 0, none⟩)] w fun e w' => e = .returned (.int .i64 (L1.length : Int)) ∧ w = w' := by
  obtain ⟨Q, D, A1, c1, A2, c2, h⟩ := h.ex
  exact plen_any h.m1.bx
theorem t_top (h : St2 w0 w s a b c P Z R k p1 k1 o1 L1 p2 k2 o2 L2) (hl : L1.length ≤ 900000) : Calls Try.prog 16 #[.pointer (some ⟨p1, 0, none⟩)] w fun e w' => e = .returned (.tuple #[.agg #[.int .i64 (topP L1), .int .i64 (topN L1)], .bool (topB L1)]) ∧ Below w.heap.size w w' := by
  obtain ⟨Q, D, A1, c1, A2, c2, h⟩ := h.ex
  exact ptop_any h.m1 hl
theorem t_pages (h : St2 w0 w s a b c P Z R k p1 k1 o1 L1 p2 k2 o2 L2) (hl : L1.length ≤ 100000) : Calls Try.prog 18 #[.pointer (some ⟨p1, 0, none⟩)] w fun e w' => e = .returned (.int .i64 (M.total L1)) ∧ Below w.heap.size w w' := by
  have hb := h.bounds
  have hd := h.du
  obtain ⟨Q, D, A1, c1, A2, c2, h⟩ := h.ex
  exact ppages_any h.m1 hl (fun r hr => by have := hd.inv.in (List.mem_append.2 (.inl hr)); omega)
theorem t_space (h : St2 w0 w s a b c P Z R k p1 k1 o1 L1 p2 k2 o2 L2) : Calls Try.prog 15 #[.pointer (some ⟨s, 0, none⟩)] w fun e w' => e = .returned (.pointer (some ⟨b, 0, none⟩)) ∧ Below w.heap.size w w' := by
  obtain ⟨Q, D, A1, c1, A2, c2, h⟩ := h.ex
  exact cspace_any h.sd.chk
theorem t_read (h : St2 w0 w s a b c P Z R k p1 k1 o1 L1 p2 k2 o2 L2) (hu : Z.u ≤ 900000000000) (x : Int) (q p d o n : Nat) (hx : x = q) (hq : q < P) (hs : Stands Z.f q p d o n) :
    Calls Try.prog 14 #[.pointer (some ⟨b, 0, none⟩), .int .i64 x] w fun e w' => e = .returned (.tuple #[hv p d o n, .int .i64 0]) ∧ St2 w0 w' s a b c P { Z with u := Z.u + 1 } R k p1 k1 o1 L1 p2 k2 o2 L2 ∧ Kept w w' (fun x => ¬ R x ∧ w0.heap.size ≤ x) := by
  obtain ⟨Q, D, A1, c1, A2, c2, h⟩ := h.ex
  refine (st_read h.sd.chk.st x q p d o n hx hq hs hu).mono ?_
  rintro e w' ⟨rfl, hh, hk⟩
  have hc := h.sd.part hh hk (fun x e => e.imp id (fun e => e.1))
  exact ⟨rfl, h.call hc.chk hk (h.du.read _)⟩
theorem t_runs (h : St2 w0 w s a b c P Z R k p1 k1 o1 L1 p2 k2 o2 L2) : Calls Try.prog 20 #[.pointer (some ⟨s, 0, none⟩)] w (GotR w Z.l) := by
  obtain ⟨Q, D, A1, c1, A2, c2, h⟩ := h.ex
  exact cruns_any h.sd.chk
theorem t_trim (h : St2 w0 w s a b c P Z R k p1 k1 o1 L1 p2 k2 o2 L2) (hk : k ≤ 90000) :
    Calls Try.prog 19 #[.pointer (some ⟨s, 0, none⟩)] w fun e w' => e = .returned (.int .i64 (M.sum Z.K)) ∧ St2 w0 w' s a b c P (Z.trim P) R (k + 28) p1 k1 o1 L1 p2 k2 o2 L2 ∧ Kept w w' (fun x => ¬ R x ∧ w0.heap.size ≤ x) := by
  obtain ⟨Q, D, A1, c1, A2, c2, h⟩ := h.ex
  refine (ctrim_any h.sd.chk hk h.du.inv.low).mono ?_
  rintro e w' ⟨rfl, hh, hk⟩
  exact ⟨rfl, h.call hh hk h.du.trim⟩
/-- A Store, and a pile of it. -/
theorem t_new {w' w1 : World} {Q : Nat → Prop} (h : Chk (fun _ => False) w0 w s a b c P (St.new P) Q 0) (hb : Below w.heap.size w w1) (hx : Box4 w1 w.heap.size (.pointer (some ⟨s, 0, none⟩)) (.int .i64 (k1 : Int)) (.int .u64 (o1 : Int)) (.slice none 0 0)) :
    St2 w0 w1 s a b c P (St.new P) (fun _ => False) 0 w.heap.size k1 o1 [] 0 k2 o2 [] := by
  have hs : Sd (fun _ => False) w0 w s a b c P (St.new P) Q 0 := ⟨h, fun x e => e.elim⟩
  have hP := h.st.bounds
  refine ⟨Q, fun x => x = w.heap.size, none, 0, none, 0, hs.side (Kept.of_below hb (fun _ => False)) (fun x e => e.elim) (fun x e => .inr (by have := hx.lt; omega)), ⟨hx, View.none' _ _, rowD_none _, rfl, fun x e => absurd e (rowD_none x)⟩, fun e => absurd rfl e, Duo.new P hP.1 _ _ _ _, fun e => absurd rfl e, fun x e => e.elim, fun x e => e.elim, fun e => absurd rfl e⟩
/-- .. and a second one. -/
theorem t_new2 {w1 : World} (h : St2 w0 w s a b c P (St.new P) R 0 p1 k1 o1 [] 0 k2 o2 []) (hb : Below w.heap.size w w1) (hx : Box4 w1 w.heap.size (.pointer (some ⟨s, 0, none⟩)) (.int .i64 (k2 : Int)) (.int .u64 (o2 : Int)) (.slice none 0 0)) :
    w.heap.size ≠ 0 ∧ St2 w0 w1 s a b c P (St.new P) R 0 p1 k1 o1 [] w.heap.size k2 o2 [] := by
  obtain ⟨Q, D, A1, c1, A2, c2, h⟩ := h.ex
  have hl := h.m1.bx.lt
  have hn : ∀ x, Ow w.heap.size none x → x = w.heap.size := fun x e => e.elim id (fun e => absurd e (rowD_none x))
  refine ⟨by omega, Q, fun x => D x ∨ x = w.heap.size, A1, c1, none, 0, h.sd.side (Kept.of_below hb (fun _ => False)) (fun x e => e.elim) (fun x e => e.imp id (fun e => by have := hx.lt; omega)), (h.m1.below hb).more (fun x e => .inl e), fun _ => ⟨hx, View.none' _ _, rowD_none _, .inr rfl, fun x e => absurd e (rowD_none x)⟩, Duo.new P h.sd.chk.st.bounds.1 _ _ _ _, fun _ x e e2 => by have := h.m1.lt x e; have := hn x e2; omega, fun x e => .inl (h.rd x e), h.r1, fun _ x e e2 => by have := h.sd.dl x (h.rd x e); have := hn x e2; omega⟩
end
end Go.Proofs.Ytmagdhcpbofkbaa
/-
  The document's example of layer 14.
-/
namespace Go.Proofs.Ytmagdhcpbofkbaa
open Go.ChangeShapes Go.WideShapes Go.ChangeAt Go.RowKit Go.Deep
set_option linter.unusedVariables false
set_option maxRecDepth 20000

/-- What the walk is told of a list that lies in a law's own blocks. -/
theorem View.keptR {w0 w w' : World} {B c : Nat} {A : Option Addr} {l : List M.R} {R : Nat → Prop} (h : View w B A c l) (hk : Kept w w' (fun x => ¬ R x ∧ w0.heap.size ≤ x)) (hR : ∀ x, rowD A x → R x) : View w' B A c l := h.kept hk (fun x hx e => e.1 (hR x hx))
theorem same_eq14 (w : World) (A A' : Option Addr) (l : List M.R) (z c z' c' : Nat) (hz : z = l.length) (hz' : z' = l.length) (hA : Runs w A l) (hA' : Runs w A' l) (hl : z ≤ 9223372036854775807) :
    Calls Try.prog 12 #[.slice A z c, .slice A' z' c'] w fun e w' => e = .returned (.bool true) ∧ Below w.heap.size w w' := by
  refine (same_any w A A' l l z c z' c' hz hz' hA hA' hl).mono ?_
  rintro e w' ⟨rfl, hb⟩
  exact ⟨by simp, hb⟩
theorem two_runs (w : World) (a b c d : Int) (ty : TypeId) : Runs (w.alloc (.cells #[.int .i64 a, .int .i64 b, .int .i64 c, .int .i64 d] ty)) (some ⟨w.heap.size, 0, none⟩) [⟨a, b⟩, ⟨c, d⟩] := fun _ => by
  refine ⟨w.heap.size, 0, rfl, fun i hi => ?_⟩
  have h : i = 0 ∨ i = 1 := by simp at hi; omega
  rcases h with rfl | rfl
  · exact ⟨by rw [World.cell?_alloc_mark]; rfl, by rw [World.cell?_alloc_mark]; rfl⟩
  · exact ⟨by rw [World.cell?_alloc_mark]; rfl, by rw [World.cell?_alloc_mark]; rfl⟩
def awA : St := (St.new 8).psh 8 [] 1 (0 : Nat) 7
def awB : St := awA.psh 8 [⟨0, 1⟩] 2 (0 : Nat) 7
theorem awA_is : gtE 8 (St.new 8) 1 (0 : Nat) = 0 ∧ gtP 8 (St.new 8) 1 (0 : Nat) = 0 ∧ gtN 8 (St.new 8) 1 (0 : Nat) = 1 := ⟨by kernel_rfl, by kernel_rfl, by kernel_rfl⟩
theorem awB_is : gtE 8 awA 2 (0 : Nat) = 0 ∧ gtP 8 awA 2 (0 : Nat) = 1 ∧ gtN 8 awA 2 (0 : Nat) = 2 := ⟨by kernel_rfl, by kernel_rfl, by kernel_rfl⟩
theorem awU : awA.u = 3 ∧ awB.u = 6 := ⟨by kernel_rfl, by kernel_rfl⟩
set_option maxHeartbeats 8000000 in
theorem awake14_any (w : World) : Calls Try.prog 6 #[] w fun e w' => e = .returned (.bool true) ∧ Below w.heap.size w w' := by
  have i1 : pshL 8 (St.new 8) [] 1 (0 : Nat) = [⟨0, 1⟩] := by unfold pshL; rw [if_pos awA_is.1, awA_is.2.1, awA_is.2.2]
  have i2 : pshL 8 awA [⟨0, 1⟩] 2 (0 : Nat) = [⟨1, 2⟩, ⟨0, 1⟩] := by unfold pshL; rw [if_pos awB_is.1, awB_is.2.1, awB_is.2.2]
  have HI := Lib.hid (And.intro i1 i2)
  clear i1 i2
  go_enter Try.func6, Try.ntmps6
  go_wp2_with fail
  refine (cnew_any (Below.refl w.heap.size w) 8 8 (by decide)).mono ?_
  rintro e w1 ⟨s, a, b, c, Q, rfl, h1, _, _, _⟩
  have H1 := Lib.hid h1
  clear h1
  go_wp2_with fail
  refine (pnew_any w1 (some ⟨s, 0, none⟩) 0 7).mono ?_
  rintro e w2 ⟨rfl, x2, b2⟩
  have H2 := Lib.hid (t_new (k1 := 0) (o1 := 7) (k2 := 0) (o2 := 0) (w' := w2) H1.out b2 x2)
  clear x2 b2 H1
  generalize w1.heap.size = p at *
  go_wp2_with fail
  refine (t_push H2.out (by omega) (by simp [St.new]) (by omega) (by simp) 1).mono ?_
  rintro e w3 ⟨rfl, h3, _⟩
  rw [HI.out.1] at h3
  rw [awA_is.1, awA_is.2.1, awA_is.2.2]
  have H3 := Lib.hid (show St2 w w3 s a b c 8 awA (fun _ => False) (0 + 30) p 0 7 [⟨0, 1⟩] 0 0 0 [] from h3)
  clear h3
  go_wp2_with fail
  refine (t_push H3.out (by omega) (by rw [awU.1]; omega) (by omega) (by simp) 2).mono ?_
  rintro e w4 ⟨rfl, h4, _⟩
  rw [HI.out.2] at h4
  rw [awB_is.1, awB_is.2.1, awB_is.2.2]
  have H4 := Lib.hid (show St2 w w4 s a b c 8 awB (fun _ => False) (0 + 30 + 30) p 0 7 [⟨1, 2⟩, ⟨0, 1⟩] 0 0 0 [] from h4)
  clear h4
  go_wp2_with fail
  refine (t_walk H4.out (by omega) (by rw [awU.2]; simp) (by simp)).mono ?_
  rintro e w5 ⟨t, A, cc, rfl, ht, h5, v5, _⟩
  have H5 := Lib.hid (And.intro h5 (And.intro v5 ht))
  clear h5 v5 ht
  go_wp2_with fail
  refine (t_pop H5.out.1 (by omega) (by have := H5.out.2.2; simp at this; simp only [awU.2]; omega) (by simp)).mono ?_
  rintro e w6 ⟨rfl, h6, k6⟩
  have H6 := Lib.hid (And.intro h6 (And.intro (H5.out.2.1.keptR k6 (fun x e => .inr e)) H5.out.2.2))
  clear h6 k6 H5
  go_wp2_with fail
  refine (t_top H6.out.1 (by simp)).mono ?_
  rintro e w7 ⟨rfl, b7⟩
  simp only [topP, topN, topB]
  have b8 : Below w7.heap.size w7 (w7.alloc (.cells #[.int .i64 0, .int .i64 1] 34)) := (Below.refl _ _).alloc (Nat.le_refl _) _
  have c0 : (w7.alloc (.cells #[.int .i64 0, .int .i64 1] 34)).cell? ⟨w7.heap.size, 0, none⟩ = some (.int .i64 0) := by rw [World.cell?_alloc_mark]; rfl
  have c1 : (w7.alloc (.cells #[.int .i64 0, .int .i64 1] 34)).cell? ⟨w7.heap.size, 1, none⟩ = some (.int .i64 1) := by rw [World.cell?_alloc_mark]; rfl
  obtain ⟨w8, hw8⟩ : ∃ z, z = w7.alloc (.cells #[.int .i64 0, .int .i64 1] 34) := ⟨_, rfl⟩
  rw [← hw8] at b8 c0 c1
  have H8 := Lib.hid (And.intro ((H6.out.1.below b7).below b8) (And.intro ((H6.out.2.1.below b7).below b8) H6.out.2.2))
  clear b7 b8
  go_upto_region 8 with fail
  rw [← hw8]
  generalize w7.heap.size = y at *
  clear hw8
  obtain ⟨w9, hw9⟩ : ∃ z, z = w8.alloc (.cells #[.int .i64 1, .int .i64 2, .int .i64 0, .int .i64 1] 34) := ⟨_, rfl⟩
  have b9 : Below w8.heap.size w8 w9 := by rw [hw9]; exact (Below.refl _ _).alloc (Nat.le_refl _) _
  have r9 : Runs w9 (some ⟨w8.heap.size, 0, none⟩) [⟨1, 2⟩, ⟨0, 1⟩] := by rw [hw9]; exact two_runs w8 1 2 0 1 _
  have e0 := (b9.cell (p := ⟨y, 0, none⟩) (lt_of_cell c0)).trans c0
  have e1 := (b9.cell (p := ⟨y, 1, none⟩) (lt_of_cell c1)).trans c1
  have H9 := Lib.hid (And.intro (H8.out.1.below b9) (And.intro (H8.out.2.1.below b9).runs (And.intro H8.out.2.2 r9)))
  have E9 := Lib.hid (And.intro e0 e1)
  clear c0 c1 b9 r9 e0 e1
  go_wp2_with fail
  rw [← hw9]
  clear hw9
  refine (same_eq14 w9 _ _ [⟨1, 2⟩, ⟨0, 1⟩] _ _ 2 2 H9.out.2.2.1 rfl H9.out.2.1 H9.out.2.2.2 (by have := H9.out.2.2.1; simp at this; omega)).mono ?_
  rintro e w10 ⟨rfl, b10⟩
  have H10 := Lib.hid (H9.out.1.below b10)
  have e0 := (b10.cell (p := ⟨y, 0, none⟩) (lt_of_cell E9.out.1)).trans E9.out.1
  have e1 := (b10.cell (p := ⟨y, 1, none⟩) (lt_of_cell E9.out.2)).trans E9.out.2
  clear b10
  go_wp2_with fail
  refine (t_len H10.out).mono ?_
  rintro e w' ⟨rfl, rfl⟩
  go_wp2_with fail
  refine (t_pages H10.out (by simp)).mono ?_
  rintro e w11 ⟨rfl, b11⟩
  rw [show M.total [(⟨0, 1⟩ : M.R)] = 1 from by simp [M.total]]
  have H11 := Lib.hid (H10.out.below b11).bel
  clear b11
  go_wp2_with fail
  go_ret
  exact ⟨rfl, H11.out⟩
end Go.Proofs.Ytmagdhcpbofkbaa
/-
  There is room for what the laws push.
-/
namespace Go.Proofs.Ytmagdhcpbofkbaa
open Go.ChangeShapes Go.WideShapes Go.ChangeAt Go.RowKit Go.Deep
set_option linter.unusedVariables false
set_option maxRecDepth 20000

theorem ck70 (n : Int) (h1 : 1 ≤ n) (h2 : n ≤ 70) : M.ckN n ≤ 70 ∧ 1 ≤ M.ckN n := by
  have h : ∀ k : Fin 71, 1 ≤ k.val → M.ckN (k.val : Int) ≤ 70 ∧ 1 ≤ M.ckN (k.val : Int) := by decide
  have := h ⟨n.toNat, by omega⟩ (by simp; omega)
  rwa [show (((⟨n.toNat, by omega⟩ : Fin 71).val : Nat) : Int) = n by simp; omega] at this
theorem tot69 {l : List M.R} (h : ∀ r ∈ l, r.n ≤ 69) : M.total l ≤ (l.length : Int) * 69 := by
  induction l with
  | nil => simp [M.total]
  | cons r l ih =>
    have h1 := h r (List.mem_cons_self ..)
    have h2 := ih (fun s hs => h s (List.mem_cons_of_mem _ hs))
    rw [M.total_cons, List.length_cons]
    omega
section
variable {P k1 o1 k2 o2 u v : Nat} {Z : St} {L1 L2 G : List M.R} {r : M.R}
theorem glen14 {P : Nat} {Z : St} (hg : M.Good Z.K) (p kd : Int) (o : Nat) : (Z.gt P p kd o).l.length + (M.all (Z.gt P p kd o).K).length ≤ Z.l.length + (M.all Z.K).length := by
  unfold St.gt
  split
  · have := fd_len (P := P) (l := Z.l) (K := Z.K) (T := Z.T) (c := M.cls p) (n := M.ckN p) hg
    unfold St.get
    split
    · exact this
    · exact this
  · exact Nat.le_refl _
theorem plen14 {P : Nat} {Z : St} (p n : Int) : (Z.put P p n).l.length + (M.all (Z.put P p n).K).length ≤ Z.l.length + (M.all Z.K).length + 1 := pt_len
theorem gt_room (h : Inv P Z G) (hP : P ≤ 1048576) {pages kind : Int} {o : Nat} (h1 : 1 ≤ pages) (h2 : pages ≤ 70) (h3 : 0 ≤ kind) (h4 : kind ≤ 255) (ho : o < 18446744073709551616) (n : Nat) (hl : Z.l.length + (M.all Z.K).length ≤ n) (ht : M.total G + 69 * n < P) : gtE P Z pages kind = 0 := by
  have hb : getB pages kind = true := (getB_iff _ _).2 ⟨h1, by omega, h3, h4⟩
  rcases h.gt14 hP pages kind o ho with ⟨e, _⟩ | ⟨e | ⟨e, hk, hb2⟩, _, _, hi, _, _⟩
  · exact e
  · exfalso
    unfold gtE at e
    rw [if_pos hb] at e
    rcases (get_pt h h1 (by omega)).2 with ⟨e2, _⟩ | ⟨e2, _⟩ <;> omega
  · exfalso
    have hlen := glen14 (P := P) h.good pages kind o
    have hp := hi.pt
    rw [hk, List.nil_append] at hp
    have hc := ck70 pages h1 h2
    have h69 := tot69 (l := (Z.gt P pages kind o).l) (fun r hr => by
      rcases (take_none hb2).2.2 with h5 | h5
      · omega
      · have := h5 r hr; omega)
    have := hp.tot
    have h6 : ((Z.gt P pages kind o).l.length : Int) * 69 ≤ (n : Int) * 69 := by omega
    omega
/-- How much two piles have, and how many free runs there may be. -/
structure Lim (Z : St) (L1 L2 : List M.R) (u v : Nat) : Prop where
  tot : M.total (L1 ++ L2) ≤ 70 * u
  len : Z.l.length + (M.all Z.K).length ≤ 1 + v
  tk : Z.u ≤ 4 * (u + v)
  ll : L1.length + L2.length ≤ u
theorem Lim.swap (h : Lim Z L1 L2 u v) : Lim Z L2 L1 u v := ⟨by rw [M.total_perm (List.perm_append_comm (l₁ := L2) (l₂ := L1))]; exact h.tot, h.len, h.tk, by have := h.ll; omega⟩
theorem Lim.new (P : Nat) : Lim (St.new P) [] [] 0 0 := ⟨by simp [M.total], by rw [show (St.new P).K = M.empty from rfl, M.all_empty]; simp [St.new], by simp [St.new], by simp⟩
theorem Lim.push (hl : Lim Z L1 L2 u v) (h : Duo P Z k1 o1 L1 k2 o2 L2) (hP : P ≤ 1048576) (hk : k1 ≤ 255) (ho : o1 < 18446744073709551616) {pages : Int} (h1 : 1 ≤ pages) (h2 : pages ≤ 70) (hr : 70 * u + 69 * (1 + v) < P) :
    gtE P Z pages k1 = 0 ∧ pshL P Z L1 pages k1 = ⟨gtP P Z pages k1, gtN P Z pages k1⟩ :: L1 ∧ Lim (Z.psh P L1 pages k1 o1) (⟨gtP P Z pages k1, gtN P Z pages k1⟩ :: L1) L2 (u + 1) v := by
  have e := gt_room h.inv hP (kind := (k1 : Int)) (o := o1) h1 h2 (by omega) (by omega) ho (1 + v) hl.len (by have := hl.tot; omega)
  have hg := glen14 (P := P) h.inv.good pages (k1 : Int) o1
  have hz : (Z.psh P L1 pages k1 o1).l = (Z.gt P pages k1 o1).l ∧ (Z.psh P L1 pages k1 o1).K = (Z.gt P pages k1 o1).K ∧ (Z.psh P L1 pages k1 o1).u = (Z.gt P pages k1 o1).u + 2 := by unfold St.psh; rw [if_pos e]; exact ⟨rfl, rfl, rfl⟩
  refine ⟨e, by unfold pshL; rw [if_pos e], ?_, by rw [hz.1, hz.2.1]; have := hl.len; omega, ?_, by have := hl.ll; simp only [List.length_cons]; omega⟩
  · rcases h.inv.gt14 hP pages (k1 : Int) o1 ho with ⟨_, _, _, en, _⟩ | ⟨e2, _⟩
    · have h5 := (ck70 pages h1 h2).1
      have h6 := hl.tot
      have h7 : M.total ((⟨gtP P Z pages k1, gtN P Z pages k1⟩ :: L1) ++ L2) = M.ckN pages + M.total (L1 ++ L2) := by rw [List.cons_append, M.total_cons, en]
      rw [h7]
      omega
    · omega
  · rw [hz.2.2]
    have := hl.tk
    rcases h.inv.gt14 hP pages (k1 : Int) o1 ho with ⟨_, _, _, _, _, eu, _⟩ | ⟨e2, _⟩
    · omega
    · omega
theorem Lim.pop (hl : Lim Z (r :: L1) L2 u v) (h : Duo P Z k1 o1 (r :: L1) k2 o2 L2) : Lim (Z.pop P r) L1 L2 u (v + 1) := by
  have hr := (h.inv.in (r := r) (by simp)).2.1
  have ht := hl.tot
  rw [List.cons_append, M.total_cons] at ht
  have hll := hl.ll
  have hp := plen14 (P := P) (Z := ({ Z with u := Z.u + 1 } : St)) r.p r.n
  refine ⟨by omega, Nat.le_trans hp (by have := hl.len; simp only; omega), ?_, by simp only [List.length_cons] at hll; omega⟩
  have := hl.tk
  show Z.u + 1 + 3 ≤ _
  omega
end
end Go.Proofs.Ytmagdhcpbofkbaa
/-
  Arguments of layer 14: bytes, bools, acts.
-/
namespace Go.Proofs.Ytmagdhcpbofkbaa
open Go.ChangeShapes Go.WideShapes Go.ChangeAt Go.RowKit Go.Deep
set_option linter.unusedVariables false
set_option maxRecDepth 20000

/-- 'l[i:]'. -/
theorem rcut14_any {L : List M.R} {A : Option Addr} {c : Nat} (t i : Nat) (ht : t = L.length) (hc : t ≤ c) (hi : i ≤ t) : ∃ A', (∀ W, (Instr.slice 29 (.slice A t c) (some (.int .i64 (i : Int))) none none).run Try.prog W = .ok (.slice A' (t - i) (c - i)) W) ∧ ∀ W, Runs W A L → Runs W A' (L.drop i) := by
  refine ⟨if c = i then A else A.map (·.add (i * 2)), fun W => by rw [run_slice_l W 29 A t c rund14 .i64 i (by omega) (by omega), relem14, rsize14]; simp only [Result.andThen_ok, sliced, Int.toNat_natCast], fun W h hl => ?_⟩
  have hl' : i < L.length := by simp at hl; omega
  obtain ⟨bl, o, rfl, hcs⟩ := h (by omega)
  rw [if_neg (by omega)]
  refine ⟨bl, o + i * 2, by simp [Addr.add_lit], fun j hj => ?_⟩
  have hj' : i + j < L.length := by simp at hj; omega
  rw [List.getElem_drop]
  have := hcs (i + j) hj'
  rw [show o + i * 2 + j * 2 = o + (i + j) * 2 by omega]
  exact this
theorem done14 {P k1 o1 k2 o2 : Nat} {Z : St} (h : Duo P Z k1 o1 [] k2 o2 []) (hP : 1 ≤ P) : (Z.trim P).l = [⟨0, P⟩] := by
  have := h.trim.inv.pt
  rw [show (Z.trim P).K = M.empty from rfl, M.all_empty] at this
  exact this.done (by omega)
/-- Bytes of an argument. -/
theorem bytes14 {w : World} {a : Option Addr} {len cap : Nat} {zs : List Int} (h : IsRow .u8 w a len cap zs) : ∃ l : List Nat, len = l.length ∧ (∀ x ∈ l, x < 256) ∧ (0 < len → ∃ ad, a = some ad ∧ ∀ j (hj : j < l.length), w.cell? (ad.add j) = some (.int .u8 (l[j] : Int))) := by
  rcases h with ⟨rfl, rfl, rfl, rfl⟩ | ⟨x, rfl, hl, hm, hz, hc, hw⟩
  · exact ⟨[], rfl, fun x hx => (by cases hx), fun h => absurd h (by omega)⟩
  · refine ⟨(zs.take len).map Int.toNat, by simp; omega, fun y hy => ?_, fun _ => ⟨x, rfl, fun j hj => ?_⟩⟩
    · obtain ⟨z, hz', rfl⟩ := List.mem_map.1 hy
      have := bounds_u8 (hw z (List.mem_of_mem_take hz'))
      omega
    · have hj' : j < len := by simp at hj; omega
      have hjz : j < zs.length := by omega
      have hb := bounds_u8 (hw _ (List.getElem_mem hjz))
      rw [hc j hjz]
      simp [List.getD, List.getElem?_eq_getElem hjz]
      omega
section
variable {H : Type} {enc : TypeId × Value → H} {W : World} {base : Nat} {spare : Nat → Bool} {held : Bool}
/-- Bools at a slice's address. -/
def Bools (W : World) (A : Option Addr) (l : List Bool) : Prop := 0 < l.length → ∃ bl o, A = some ⟨bl, o, none⟩ ∧ ∀ i (h : i < l.length), W.cell? ⟨bl, o + i, none⟩ = some (.bool l[i])
def IsBools (W : World) (A : Option Addr) (len : Nat) : Prop := len ≤ 9223372036854775807 ∧ ∃ l : List Bool, len = l.length ∧ Bools W A l
theorem bools_open {fuel : Nat} {cs : List Value} {x : DataW H × List MemPlace} (h : DataW.trod enc Try.prog W base spare held fuel 52 cs = some x) :
    ∃ A len cap, cs = [.slice A len cap] ∧ IsBools W A len := by
  rcases open_slice Try.underlying52 h with ⟨rfl, _⟩ | ⟨a, len, cap, m, n, D, Pl, rfl, _, hl, hmx, hm, _, hi⟩
  · exact ⟨none, 0, 0, rfl, by omega, [], rfl, fun h => absurd h (by simp)⟩
  · have hlm : len ≤ m := by rw [hm]; split <;> omega
    have h1 : Try.prog.cellsOf 4 = 1 := by kernel_rfl
    refine ⟨some a, len, cap, rfl, by unfold maxLen at hmx; omega, ?_⟩
    obtain ⟨l, hl1, hl2⟩ := list_of (Q := fun i (y : Bool) => W.cell? (a.add i) = some (.bool y)) len (fun i hi' => by
      obtain ⟨cs', hc, ht⟩ := hi i (by omega)
      rw [h1, Nat.mul_one] at hc
      obtain ⟨_, hlen, hat⟩ := World.cells?_some hc
      obtain ⟨b, e, _⟩ := DataW.trod_bool Try.underlying4 ht
      subst e
      have := hat 0 (by omega)
      rw [add_zero'] at this
      exact ⟨b, this⟩)
    refine ⟨l, hl1.symm, fun hpos => ?_⟩
    have hs : a.spot = none := by
      have := hl2 0 hpos
      rw [add_zero'] at this
      exact World.cell?_spot this
    obtain ⟨bl, o, sp⟩ := a
    simp only at hs
    subst hs
    have ad : ∀ j, (⟨bl, o, none⟩ : Addr).add j = ⟨bl, o + j, none⟩ := fun j => by unfold Addr.add; split <;> simp_all
    refine ⟨bl, o, rfl, fun i hi' => ?_⟩
    have := hl2 i hi'
    rw [ad] at this
    exact this
/-- An act: what is done, with which pile, a number. -/
structure Act14 where
  d : Nat
  b : Bool
  n : Int
structure IsAct14 (w : World) (bl o : Nat) (x : Act14) : Prop where
  c0 : w.cell? ⟨bl, o, none⟩ = some (.int .u8 (x.d : Int))
  c1 : w.cell? ⟨bl, o + 1, none⟩ = some (.bool x.b)
  c2 : w.cell? ⟨bl, o + 2, none⟩ = some (.int .i64 x.n)
  d8 : x.d < 256
  nr : -9223372036854775808 ≤ x.n ∧ x.n ≤ 9223372036854775807
/-- Acts at a slice's address. -/
def Acts14 (W : World) (A : Option Addr) (l : List Act14) : Prop := 0 < l.length → ∃ bl o, A = some ⟨bl, o, none⟩ ∧ ∀ i (h : i < l.length), IsAct14 W bl (o + i * 3) l[i]
/-- What the walk is told of a slice of acts. -/
def IsActs14 (W : World) (A : Option Addr) (len : Nat) : Prop := len ≤ 9223372036854775807 ∧ ∃ l : List Act14, len = l.length ∧ Acts14 W A l
theorem IsAct14.keep {w w' : World} {bl o : Nat} {x : Act14} (h : IsAct14 w bl o x) (hb : Below w.heap.size w w') : IsAct14 w' bl o x :=
  ⟨(hb.cell (lt_of_cell h.c0)).trans h.c0, (hb.cell (lt_of_cell h.c1)).trans h.c1, (hb.cell (lt_of_cell h.c2)).trans h.c2, h.d8, h.nr⟩
end
end Go.Proofs.Ytmagdhcpbofkbaa
