/-
  The document's Alloc: New, Take, Give, Largest.
-/
import Derived.Test.YtmboibipabkhaaaGreatKxK4
import Derived.Test.YtmboibipabkhaaaGreatKxRG5
import Derived.Test.YtmboibipabkhaaaGreatKxRTk5
namespace Go.Proofs.YtmboibipabkhaaaGreat
open Go.ChangeShapes Go.WideShapes Go.ChangeAt Go.RowKit Go.Deep
set_option linter.unusedVariables false
set_option maxRecDepth 20000
abbrev RA (P : Int) (A : Option Addr) (z c : Nat) (T : Int) : Value := .agg #[.int .i64 P, .slice A z c, .int .i64 T]
structure Tri (w : World) (g : Nat) (P : Int) (A : Option Addr) (z c : Nat) (T : Int) : Prop where
 al : Al w g P A z c T
 f0 : w.frozen? ⟨g, 0, none⟩ = false
section
variable {w w' : World} {g : Nat} {P T : Int} {A : Option Addr} {z c : Nat}
theorem Tri.below (h : Tri w g P A z c T) (hb : Below w.heap.size w w') : Tri w' g P A z c T := ⟨h.al.below hb, (World.frozen?_of_block (w := w) (a := ⟨g, 0, none⟩) (hb.block g h.al.lt)).trans h.f0⟩
theorem Tri.alloc (h : Tri w g P A z c T) (o : Obj) : Tri (w.alloc o) g P A z c T := h.below ((Below.refl _ _).alloc (Nat.le_refl _) _)
theorem Tri.new (w : World) (P : Int) (A : Option Addr) (z c : Nat) (T : Int) : Tri (w.alloc (.cells #[.int .i64 P, .slice A z c, .int .i64 T] 31)) w.heap.size P A z c T :=
 ⟨⟨by rw [World.cell?_alloc_mark]; rfl, by rw [World.cell?_alloc_mark]; rfl, by rw [World.cell?_alloc_mark]; rfl, fun j hj => by rw [World.cell?_alloc_mark]; simp; omega, by rw [World.frozen?_alloc_mark]; simp, by rw [World.frozen?_alloc_mark]; simp⟩, by rw [World.frozen?_alloc_mark]; simp⟩
theorem Tri.first (h : Tri w g P A z c T) (P' : Int) : Tri (w.setCell ⟨g, 0, none⟩ (.int .i64 P')) g P' A z c T := by
 refine ⟨⟨World.cell?_setCell_same _ _ _ h.al.c0, ?_, ?_, fun j hj => ?_, ?_, ?_⟩, ?_⟩
 ·rw [World.cell?_setCell_other _ _ _ _ (by simp)]; exact h.al.c1
 ·rw [World.cell?_setCell_other _ _ _ _ (by simp)]; exact h.al.c2
 ·rw [World.cell?_setCell_other _ _ _ _ (by simp; try omega)]; exact h.al.c3 j hj
 ·rw [World.frozen?_setCell]; exact h.al.f1
 ·rw [World.frozen?_setCell]; exact h.al.f2
 ·rw [World.frozen?_setCell]; exact h.f0
theorem Tri.set (h : Tri w g P A z c T) (P' : Int) (A' : Option Addr) (z' c' : Nat) (T' : Int) :
  Tri (((w.setCell ⟨g, 0, none⟩ (.int .i64 P')).setCell ⟨g, 1, none⟩ (.slice A' z' c')).setCell ⟨g, 2, none⟩ (.int .i64 T')) g P' A' z' c' T' :=
 ⟨((h.first P').al.turn A' z' c').tick T', by rw [World.frozen?_setCell, World.frozen?_setCell, World.frozen?_setCell]; exact h.f0⟩
theorem Tri.runs (h : Tri w g P A z c T) {A' : Option Addr} {l' : List M.R} (hr : Runs w A' l') (v u x : Value) : Runs (((w.setCell ⟨g, 0, none⟩ v).setCell ⟨g, 1, none⟩ u).setCell ⟨g, 2, none⟩ x) A' l' :=
 h.al.runs hr (only_setCell (only_setCell (only_setCell (grown_of (Below.refl _ _) g) rfl v) rfl u) rfl x)
theorem below_set3a {B : Nat} {a : World} (h : Below B a w) (hg : B ≤ g) (v u x : Value) : Below B a (((w.setCell ⟨g, 0, none⟩ v).setCell ⟨g, 1, none⟩ u).setCell ⟨g, 2, none⟩ x) :=
 ((h.setCell (p := ⟨g, 0, none⟩) hg v).setCell (p := ⟨g, 1, none⟩) hg u).setCell (p := ⟨g, 2, none⟩) hg x
end
set_option maxHeartbeats 2000000 in
theorem panew_f (w : World) (x : Int) (P : Int) (hP : P = min (max x 1) 1048576) :
  Calls Tryz.prog 27 #[.int .i64 x] w fun e w' => ∃ A, e = .returned (RA P A 1 1 0) ∧ Runs w' A [⟨0, P⟩] ∧ Below w.heap.size w w' ∧ FreshR w.heap.size A := by
 have HW := Lib.hid (show ∀ o : Obj, Runs ((w.alloc o).alloc (.cells #[.int .i64 0, .int .i64 P] 98)) (some ⟨w.heap.size + 1, 0, none⟩) [⟨0, P⟩] ∧ Below w.heap.size w ((w.alloc o).alloc (.cells #[.int .i64 0, .int .i64 P] 98)) from fun o => by
  have h2 := Box.new (w.alloc o) 98 0 P
  rw [show (w.alloc o).heap.size = w.heap.size + 1 by simp] at h2
  refine ⟨fun _ => ⟨w.heap.size + 1, 0, rfl, fun i hi => ?_⟩, ((Below.refl _ _).alloc (Nat.le_refl _) _).alloc (by simp) _⟩
  have : i = 0 := by simp at hi; omega
  subst this
  exact ⟨h2.c0, h2.c1⟩)
 go_enter Tryz.func27, Tryz.ntmps27
 by_cases h1 : x < 1
 ·have e2 : P = 1 := by omega
  subst e2
  clear hP
  go_wp2_with fail
  refine bodyPost_ret (v := RA 1 (some ⟨w.heap.size + 1, 0, none⟩) 1 1 0) ?_ rfl ?_
  ·simp [results, go_sem]
  ·exact ⟨_, rfl, (HW.out _).1, (HW.out _).2, fresh_at (Nat.le_succ _)⟩
 ·by_cases h2 : 1048576 < x
  ·have e2 : P = 1048576 := by omega
   subst e2
   clear hP
   go_wp2_with fail
   refine bodyPost_ret (v := RA 1048576 (some ⟨w.heap.size + 1, 0, none⟩) 1 1 0) ?_ rfl ?_
   ·simp [results, go_sem]
   ·exact ⟨_, rfl, (HW.out _).1, (HW.out _).2, fresh_at (Nat.le_succ _)⟩
  ·have e2 : P = x := by omega
   subst e2
   clear hP
   go_wp2_with fail
   refine bodyPost_ret (v := RA P (some ⟨w.heap.size + 1, 0, none⟩) 1 1 0) ?_ rfl ?_
   ·simp [results, go_sem]
   ·exact ⟨_, rfl, (HW.out _).1, (HW.out _).2, fresh_at (Nat.le_succ _)⟩
def GotRF (w : World) (A : Option Addr) (l0 : List M.R) (P : Int) (l : List M.R) (T : Int) (v : Value → Value) (e : Ending) (w' : World) : Prop := ∃ A' z' c', e = .returned (v (RA P A' z' c' T)) ∧ z' = l.length ∧ Runs w' A' l ∧ Below w.heap.size w w' ∧ (A' = A ∧ l = l0 ∨ FreshR w.heap.size A')
set_option maxHeartbeats 4000000 in
theorem rtake6_f (w : World) (P : Int) (A : Option Addr) (z c : Nat) (T : Int) (l : List M.R) (hz : z = l.length) (hr : Runs w A l) (hl : z ≤ 100) (hok : M.Ok (-1) P l) (hP : P ≤ 1048576) (hT0 : 0 ≤ T) (hT : T ≤ 1000000000000) (n : Int) :
  Calls Tryz.prog 52 #[RA P A z c T, .int .i64 n] w (GotRF w A l P (tkL l n) (tkT l n T) (fun v => .tuple #[v, .int .i64 (takeP l n), .int .i64 (tkE l n)])) := by
 have t1 := (Tri.new w P A z c T).alloc (.cells #[.int .i64 0, .slice none 0 0, .int .i64 0] 31)
 have t2 := Tri.new (w.alloc (.cells #[.int .i64 P, .slice A z c, .int .i64 T] 31)) 0 none 0 0 0
 rw [show (w.alloc (.cells #[.int .i64 P, .slice A z c, .int .i64 T] 31)).heap.size = w.heap.size + 1 by simp] at t2
 have b1 : Below w.heap.size w ((w.alloc (.cells #[.int .i64 P, .slice A z c, .int .i64 T] 31)).alloc (.cells #[.int .i64 0, .slice none 0 0, .int .i64 0] 31)) := ((Below.refl _ _).alloc (Nat.le_refl _) _).alloc (by simp) _
 have HC := Lib.hid (rtake_any ((w.alloc (.cells #[.int .i64 P, .slice A z c, .int .i64 T] 31)).alloc (.cells #[.int .i64 0, .slice none 0 0, .int .i64 0] 31)) A l z c hz (hr.below b1) hl (hok.wide (by omega)) n)
 have HB1 := Lib.hid (And.intro b1 (And.intro t1 t2))
 have HH := Lib.hid (And.intro hz (And.intro hr (show (z : Int) ≤ 100 by omega)))
 have b0 : ∀ o1 o2, Below w.heap.size w ((w.alloc o1).alloc o2) := fun o1 o2 => ((Below.refl w.heap.size w).alloc (Nat.le_refl _) o1).alloc (by simp) o2
 have BB := Lib.hid b0
 have HS1 := Lib.hid (show wrap64 (T + 1) = T + 1 by unfold wrap64; omega)
 have HS2 := Lib.hid (show wrap64 (T + 1 + (z : Int)) = T + 1 + (z : Int) by unfold wrap64; omega)
 clear hz hr hl hok hP hT0 hT t1 t2 b1 b0
 by_cases hn : n < 1
 ·have hb := takeB_small (l := l) hn
  have HE := Lib.hid (show tkE l n = 1 ∧ tkL l n = l ∧ tkT l n T = T ∧ takeP l n = 0 from ⟨by rw [tkE, if_pos hn], by rw [tkL, hb]; rfl, by rw [tkT, hb]; rfl, takeP_none hb⟩)
  clear hb
  go_enter Tryz.func52, Tryz.ntmps52
  go_wp2_with fail
  refine bodyPost_ret (v := .tuple #[RA P A z c T, .int .i64 0, .int .i64 1]) ?_ rfl ?_
  ·simp [results, go_sem]
  ·rw [HE.out.1, HE.out.2.1, HE.out.2.2.1, HE.out.2.2.2]
   exact ⟨A, z, c, rfl, HH.out.1, HH.out.2.1.below (BB.out _ _), BB.out _ _, .inl ⟨rfl, rfl⟩⟩
 ·go_enter Tryz.func52, Tryz.ntmps52
  go_wp2_with fail
  refine HC.out.mono ?_
  rintro e w3 ⟨A', t, c', rfl, ht, hR, hB, hF⟩
  have q1 := HB1.out.2.1.below hB
  have q2 := HB1.out.2.2.below hB
  have HF := Lib.hid (show FreshR w.heap.size A' from hF.mono HB1.out.1.size); have HW := Lib.hid (And.intro (below_call HB1.out.1 hB) (And.intro ht (And.intro hR (And.intro q1 q2))))
  have c0 := q1.al.c0
  have c1 := q1.al.c1
  have c2 := q1.al.c2
  have d0 := q2.al.c0
  have d1 := q2.al.c1
  have d2 := q2.al.c2
  have g0 := q2.f0
  have g1 := q2.al.f1
  have g2 := q2.al.f2
  clear hB hR ht hF q1 q2
  rcases Bool.eq_false_or_eq_true (takeB l n) with hb | hb
  ·have HE := Lib.hid (show tkE l n = 0 ∧ tkL l n = takeL l n ∧ tkT l n T = T + 1 + (z : Int) from ⟨by rw [tkE, if_neg (by omega), if_pos hb], by rw [tkL, if_pos hb], by rw [tkT, if_pos hb, HH.out.1]⟩)
   rw [hb] at *
   clear hb
   have hs1 := HS1.out
   have hs2 := HS2.out
   go_wp2_with fail
   have ts := HW.out.2.2.2.2.set P A' t c' (T + 1 + (z : Int))
   refine bodyPost_ret (v := .tuple #[RA P A' t c' (T + 1 + (z : Int)), .int .i64 (takeP l n), .int .i64 0]) ?_ rfl ?_
   ·simp [results, go_sem, ts.al.c0, ts.al.c1, ts.al.c2]
   ·rw [HE.out.1, HE.out.2.1, HE.out.2.2]
    exact ⟨A', t, c', rfl, HW.out.2.1, HW.out.2.2.2.2.runs HW.out.2.2.1 _ _ _, below_set3a HW.out.1 (by omega) _ _ _, .inr HF.out⟩
  ·have HE := Lib.hid (show tkE l n = 4 ∧ tkL l n = l ∧ tkT l n T = T ∧ takeP l n = 0 from ⟨by rw [tkE, if_neg (by omega), hb]; rfl, by rw [tkL, hb]; rfl, by rw [tkT, hb]; rfl, takeP_none hb⟩)
   rw [hb] at *
   clear hb
   go_wp2_with fail
   have ts := HW.out.2.2.2.2.set P A z c T
   refine bodyPost_ret (v := .tuple #[RA P A z c T, .int .i64 0, .int .i64 4]) ?_ rfl ?_
   ·simp [results, go_sem, ts.al.c0, ts.al.c1, ts.al.c2]
   ·rw [HE.out.1, HE.out.2.1, HE.out.2.2.1, HE.out.2.2.2]
    exact ⟨A, z, c, rfl, HH.out.1, HW.out.2.2.2.2.runs (HH.out.2.1.below HW.out.1) _ _ _, below_set3a HW.out.1 (by omega) _ _ _, .inl ⟨rfl, rfl⟩⟩
set_option maxHeartbeats 4000000 in
theorem rgive6_f (w : World) (P : Int) (A : Option Addr) (z c : Nat) (T : Int) (l : List M.R) (hz : z = l.length) (hr : Runs w A l) (hl : z ≤ 100) (hok : M.Ok (-1) P l) (h0 : 0 ≤ P) (hP : P ≤ 1048576) (hT0 : 0 ≤ T) (hT : T ≤ 1000000000000) (p n : Int) (hp : -9223372036854775808 ≤ p) (hp2 : p ≤ 9223372036854775807) (hn : -9223372036854775808 ≤ n) (hn2 : n ≤ 9223372036854775807) :
  Calls Tryz.prog 41 #[RA P A z c T, .int .i64 p, .int .i64 n] w (GotRF w A l P (gvL l P p n) (gvT l P p n T) (fun v => .tuple #[v, .int .i64 (gvE l P p n)])) := by
 have t1 := (Tri.new w P A z c T).alloc (.cells #[.int .i64 0, .slice none 0 0, .int .i64 0] 31)
 have t2 := Tri.new (w.alloc (.cells #[.int .i64 P, .slice A z c, .int .i64 T] 31)) 0 none 0 0 0
 rw [show (w.alloc (.cells #[.int .i64 P, .slice A z c, .int .i64 T] 31)).heap.size = w.heap.size + 1 by simp] at t2
 have b1 : Below w.heap.size w ((w.alloc (.cells #[.int .i64 P, .slice A z c, .int .i64 T] 31)).alloc (.cells #[.int .i64 0, .slice none 0 0, .int .i64 0] 31)) := ((Below.refl _ _).alloc (Nat.le_refl _) _).alloc (by simp) _
 have HC := Lib.hid (rgive_any ((w.alloc (.cells #[.int .i64 P, .slice A z c, .int .i64 T] 31)).alloc (.cells #[.int .i64 0, .slice none 0 0, .int .i64 0] 31)) A l z c hz (hr.below b1) hl (hok.wide (by omega)) P p n (by omega) (by omega) hp hp2 hn hn2)
 have HB1 := Lib.hid (And.intro b1 (And.intro t1 t2))
 have HH := Lib.hid (And.intro hz (And.intro hr (show (z : Int) ≤ 100 by omega)))
 have b0 : ∀ o1 o2, Below w.heap.size w ((w.alloc o1).alloc o2) := fun o1 o2 => ((Below.refl w.heap.size w).alloc (Nat.le_refl _) o1).alloc (by simp) o2
 have BB := Lib.hid b0
 have HS1 := Lib.hid (show wrap64 (T + 1) = T + 1 by unfold wrap64; omega)
 have HS2 := Lib.hid (show wrap64 (T + 1 + (z : Int)) = T + 1 + (z : Int) by unfold wrap64; omega)
 clear hz hr hl hok hP h0 hT0 hT hp hp2 hn hn2 t1 t2 b1 b0
 go_enter Tryz.func41, Tryz.ntmps41
 go_wp2_with fail
 refine HC.out.mono ?_
 rintro e w3 ⟨A', t, c', rfl, ht, hR, hB, hF⟩
 have q1 := HB1.out.2.1.below hB
 have q2 := HB1.out.2.2.below hB
 have HF := Lib.hid (show FreshR w.heap.size A' from hF.mono HB1.out.1.size); have HW := Lib.hid (And.intro (below_call HB1.out.1 hB) (And.intro ht (And.intro hR (And.intro q1 q2))))
 have c0 := q1.al.c0
 have c1 := q1.al.c1
 have c2 := q1.al.c2
 have d0 := q2.al.c0
 have d1 := q2.al.c1
 have d2 := q2.al.c2
 have g0 := q2.f0
 have g1 := q2.al.f1
 have g2 := q2.al.f2
 clear hB hR ht hF q1 q2
 rcases Bool.eq_false_or_eq_true (giveB l P p n) with hb | hb
 ·have HE := Lib.hid (show gvE l P p n = 0 ∧ gvL l P p n = giveL l P p n ∧ gvT l P p n T = T + 1 + (z : Int) from ⟨by rw [gvE, if_pos hb], by rw [gvL, if_pos hb], by rw [gvT, if_pos hb, HH.out.1]⟩)
  rw [hb] at *
  clear hb
  have hs1 := HS1.out
  have hs2 := HS2.out
  go_wp2_with fail
  have ts := HW.out.2.2.2.2.set P A' t c' (T + 1 + (z : Int))
  refine bodyPost_ret (v := .tuple #[RA P A' t c' (T + 1 + (z : Int)), .int .i64 0]) ?_ rfl ?_
  ·simp [results, go_sem, ts.al.c0, ts.al.c1, ts.al.c2]
  ·rw [HE.out.1, HE.out.2.1, HE.out.2.2]
   exact ⟨A', t, c', rfl, HW.out.2.1, HW.out.2.2.2.2.runs HW.out.2.2.1 _ _ _, below_set3a HW.out.1 (by omega) _ _ _, .inr HF.out⟩
 ·have HE := Lib.hid (show gvE l P p n = 1 ∧ gvL l P p n = l ∧ gvT l P p n T = T from ⟨by rw [gvE, hb]; rfl, by rw [gvL, hb]; rfl, by rw [gvT, hb]; rfl⟩)
  rw [hb] at *
  clear hb
  go_wp2_with fail
  have ts := HW.out.2.2.2.2.set P A z c T
  refine bodyPost_ret (v := .tuple #[RA P A z c T, .int .i64 1]) ?_ rfl ?_
  ·simp [results, go_sem, ts.al.c0, ts.al.c1, ts.al.c2]
  ·rw [HE.out.1, HE.out.2.1, HE.out.2.2]
   exact ⟨A, z, c, rfl, HH.out.1, HW.out.2.2.2.2.runs (HH.out.2.1.below HW.out.1) _ _ _, below_set3a HW.out.1 (by omega) _ _ _, .inl ⟨rfl, rfl⟩⟩
end Go.Proofs.YtmboibipabkhaaaGreat
