/-
  The document's Link and Clear, and what each of its calls comes to, in the program's words.
-/
import Derived.Test.YtmboibipabkhaaaGreatKxR10
namespace Go.Proofs.YtmboibipabkhaaaGreat
open Go.ChangeShapes Go.WideShapes Go.ChangeAt Go.RowKit
set_option linter.unusedVariables false
set_option maxRecDepth 20000
theorem two_more (w : World) (v0 v1 v2 u0 u1 u2 u3 : Value) :
  Box3 ((w.alloc (S3 v0 v1 v2)).alloc (H4 u0 u1 u2 u3)) w.heap.size v0 v1 v2 ∧ Box4 ((w.alloc (S3 v0 v1 v2)).alloc (H4 u0 u1 u2 u3)) (w.heap.size + 1) u0 u1 u2 u3 ∧ Below w.heap.size w ((w.alloc (S3 v0 v1 v2)).alloc (H4 u0 u1 u2 u3)) := by
 have b1 := below_new w (S3 v0 v1 v2)
 have b2 := below_new (w.alloc (S3 v0 v1 v2)) (H4 u0 u1 u2 u3)
 have x2 := Box4.new (w.alloc (S3 v0 v1 v2)) 82 u0 u1 u2 u3
 rw [size1] at x2
 exact ⟨(Box3.new w 28 v0 v1 v2).below b2, x2, below_call b1 b2⟩
set_option maxHeartbeats 8000000 in
theorem rclear8_no (w : World) (P : Nat) (A : Option Addr) (n c T T1 : Nat) (x : Int) (er p k o m : Nat) (he : er ≠ 0)
  (hrd : ∀ w1, Below w.heap.size w w1 → Calls Tryz.prog 38 #[refV P A n c T, .int .i64 x] w1 fun r w' => r = .returned (.tuple #[refV P A n c T1, hv p k o m, .int .i64 (er : Int)]) ∧ Below w1.heap.size w1 w') :
  Calls Tryz.prog 39 #[refV P A n c T, .int .i64 x] w fun r w' => r = .returned (.tuple #[refV P A n c T1, .int .i64 (er : Int)]) ∧ Below w.heap.size w w' := by
 have M1 := Lib.hid (lk_made w (.int .i64 (P : Int)) (.slice A n c) (.int .i64 (T : Int)))
 have HX := Lib.hid (And.intro hrd trivial)
 have hb : (((er : Nat) : Int) != 0) = true := by simpa using he
 clear hrd he
 go_enter Tryz.func39, Tryz.ntmps39
 go_wp2_with fail
 refine (HX.out.1 _ M1.out.2.2).mono ?_
 rintro e w1 ⟨rfl, b1⟩
 have x6 := M1.out.2.1.below b1
 have bb := below_call M1.out.2.2 b1
 obtain ⟨g3, hg3⟩ : ∃ z, z = w.heap.size := ⟨_, rfl⟩
 obtain ⟨g6, hg6⟩ : ∃ z, z = w.heap.size + 1 := ⟨_, rfl⟩
 rw [← hg6] at x6 ⊢
 rw [← hg3]
 have h6lt := x6.lt
 have H1 := Lib.hid (And.intro x6 (And.intro bb (show w.heap.size ≤ g6 by omega)))
 clear x6 bb b1 hg3 hg6 M1
 go_upto_region 2 with fail
 have t3 := two_more w1 (.int .i64 (P : Int)) (.slice A n c) (.int .i64 (T1 : Int)) (.int .i64 (p : Int)) (.int .i64 (k : Int)) (.int .u64 (o : Int)) (.int .u64 (m : Int))
 have x6 := H1.out.1.below t3.2.2
 have H3 := Lib.hid (And.intro x6 (And.intro (below_call H1.out.2.1 t3.2.2) (And.intro t3.1 t3.2.1)))
 have y8 := t3.1
 clear t3
 generalize (w1.alloc (.cells #[.int .i64 (P : Int), .slice A n c, .int .i64 (T1 : Int)] 28)).alloc (.cells #[.int .i64 (p : Int), .int .i64 (k : Int), .int .u64 (o : Int), .int .u64 (m : Int)] 82) = w3 at *
 obtain ⟨g9, hg9⟩ : ∃ z, z = w1.heap.size + 1 := ⟨_, rfl⟩
 obtain ⟨g8, hg8⟩ : ∃ z, z = w1.heap.size := ⟨_, rfl⟩
 rw [← hg9, ← hg8] at H3 ⊢
 rw [← hg8] at y8
 have hne1 : g6 < g8 := by omega
 have hne2 : g8 < g9 := by omega
 clear hg8 hg9 h6lt
 have a0 := y8.c0
 have a1 := y8.c1
 have a2 := y8.c2
 have d0 := x6.c0
 have d1 := x6.c1
 have d2 := x6.c2
 have df := x6.fz
 clear x6 y8
 go_wp2_with fail
 have ts := H3.out.1.set (.int .i64 (P : Int)) (.slice A n c) (.int .i64 (T1 : Int))
 refine bodyPost_ret (v := .tuple #[refV P A n c T1, .int .i64 (er : Int)]) ?_ rfl ?_
 ·simp [results, go_sem, ts.c0, ts.c1, ts.c2]
 ·exact ⟨rfl, below_set3 H3.out.2.1 H1.out.2.2 _ _ _⟩
set_option maxHeartbeats 20000000 in
theorem rclear8_go (w : World) (P : Nat) (A : Option Addr) (n c T T1 : Nat) (l : List M.Ent) (hlg : LogAt w A l) (x qi : Int) (a p k o m : Nat) (exa : x = a) (ha : a < 1048576) (hq : qi = (a * 4096 : Nat)) (t1 tk err : Nat) (hT1 : T1 = T + t1) (f' : Nat → UInt8)
  (hrd : ∀ w1, Below w.heap.size w w1 → Calls Tryz.prog 38 #[refV P A n c T, .int .i64 x] w1 fun r w' => r = .returned (.tuple #[refV P A n c T1, hv p k o m, .int .i64 0]) ∧ Below w1.heap.size w1 w')
  (hst : ∀ w1, Below w.heap.size w w1 → Calls Tryz.prog 67 #[refV P A n c T1, .int .u64 qi, .int .u64 32] w1 (DocSt w1 P A c T1 l tk err f')) :
  Calls Tryz.prog 39 #[refV P A n c T, .int .i64 x] w (DocSt w P A c T l (t1 + tk) err f') := by
 have M1 := Lib.hid (lk_made w (.int .i64 (P : Int)) (.slice A n c) (.int .i64 (T : Int)))
 have HX := Lib.hid (And.intro hrd (And.intro hst (And.intro hlg hT1)))
 have hwa : IntKind.u64.wrap x = x := by rw [wrapU]; omega
 have hwq : IntKind.u64.wrap (x * 4096) = qi := by rw [wrapU]; omega
 clear hrd hst hlg hT1 hq ha exa
 go_enter Tryz.func39, Tryz.ntmps39
 go_wp2_with fail
 refine (HX.out.1 _ M1.out.2.2).mono ?_
 rintro e w1 ⟨rfl, b1⟩
 have x6 := M1.out.2.1.below b1
 have bb := below_call M1.out.2.2 b1
 obtain ⟨g3, hg3⟩ : ∃ z, z = w.heap.size := ⟨_, rfl⟩
 obtain ⟨g6, hg6⟩ : ∃ z, z = w.heap.size + 1 := ⟨_, rfl⟩
 rw [← hg6] at x6 ⊢
 rw [← hg3]
 have h6lt := x6.lt
 have H1 := Lib.hid (And.intro x6 (And.intro bb (show w.heap.size ≤ g6 by omega)))
 clear x6 bb b1 hg3 hg6 M1
 go_upto_region 2 with fail
 have t3 := two_more w1 (.int .i64 (P : Int)) (.slice A n c) (.int .i64 (T1 : Int)) (.int .i64 (p : Int)) (.int .i64 (k : Int)) (.int .u64 (o : Int)) (.int .u64 (m : Int))
 have x6 := H1.out.1.below t3.2.2
 have H3 := Lib.hid (And.intro x6 (And.intro (below_call H1.out.2.1 t3.2.2) (And.intro t3.1 t3.2.1)))
 have y8 := t3.1
 clear t3
 generalize (w1.alloc (.cells #[.int .i64 (P : Int), .slice A n c, .int .i64 (T1 : Int)] 28)).alloc (.cells #[.int .i64 (p : Int), .int .i64 (k : Int), .int .u64 (o : Int), .int .u64 (m : Int)] 82) = w3 at *
 obtain ⟨g9, hg9⟩ : ∃ z, z = w1.heap.size + 1 := ⟨_, rfl⟩
 obtain ⟨g8, hg8⟩ : ∃ z, z = w1.heap.size := ⟨_, rfl⟩
 rw [← hg9, ← hg8] at H3 ⊢
 rw [← hg8] at y8
 have hne1 : g6 < g8 := by omega
 have hne2 : g8 < g9 := by omega
 clear hg8 hg9 h6lt
 have a0 := y8.c0
 have a1 := y8.c1
 have a2 := y8.c2
 have h6lt := H3.out.1.lt
 clear x6 y8
 go_wp2_with fail
 refine (HX.out.2.1 w3 H3.out.2.1).mono ?_
 rintro e y2 ⟨l', A', c', n', T2, hT2, rfl, hn2, hlog, hfr, q2, hrest⟩
 have z6 := H3.out.1.below q2
 have d0 := z6.c0
 have d1 := z6.c1
 have d2 := z6.c2
 have df := z6.fz
 have PP := Lib.hid (And.intro (fun v0 v1 v2 => sto_end (v0 := v0) (v1 := v1) (v2 := v2) HX.out.2.2.1 H3.out.2.1 H1.out.2.2 h6lt q2 hlog hfr) (And.intro hT2 (And.intro hn2 hrest)))
 have Z6 := Lib.hid z6
 clear hT2 hn2 hlog hfr q2 hrest z6 a0 a1 a2
 go_wp2_with fail
 have ts := Z6.out.set (.int .i64 (P : Int)) (.slice A' n' c') (.int .i64 (T2 : Int))
 refine bodyPost_ret (v := .tuple #[refV P A' n' c' T2, .int .i64 (err : Int)]) ?_ rfl ?_
 ·simp [results, go_sem, ts.c0, ts.c1, ts.c2]
 ·have pp := PP.out.1 (.int .i64 (P : Int)) (.slice A' n' c') (.int .i64 (T2 : Int))
  exact ⟨l', A', c', n', T2, by rw [PP.out.2.1, HX.out.2.2.2, Nat.add_assoc], rfl, PP.out.2.2.1, pp.1, pp.2.1, pp.2.2, PP.out.2.2.2⟩
theorem docSame {w w' : World} {P : Nat} {A : Option Addr} {n c T T1 tk er : Nat} {l : List M.Ent} {r : Ending} (hn : n = l.length) (hl : LogAt w A l) (hok : ∀ e ∈ l, EntOk e) (hT : T1 = T + tk) (hr : r = .returned (.tuple #[refV P A n c T1, .int .i64 (er : Int)])) (b : Below w.heap.size w w') : DocSt w P A c T l tk er (M.byteAt l) r w' :=
 ⟨l, A, c, n, T1, hT, hr, hn, Lies.below hl b, Or.inl ⟨rfl, rfl, rfl⟩, b, rfl, by omega, hok⟩
section
variable (w : World) (P : Nat) (A : Option Addr) (n c T : Nat) (hP : P ≤ 1048576) (l : List M.Ent) (hn : n = l.length) (hl : LogAt w A l) (hok : ∀ e ∈ l, EntOk e) (hb : n ≤ 900) (h0 : n = 0 → A = none ∧ c = 0) (hT : T ≤ 900000000000)
include hP hn hl hok hb h0 hT
theorem docRead (x : Int) :
  Calls Tryz.prog 38 #[refV P A n c T, .int .i64 x] w fun r w' => r = .returned (.tuple #[refV P A n c (T + rT P x), rV P (M.byteAt l) x, .int .i64 (rE P (M.byteAt l) x : Nat)]) ∧ Below w.heap.size w w' := by
 by_cases hx : pin P x = true
 ·obtain ⟨a, rfl, ha⟩ := pin_yes hx
  obtain ⟨p, k, o, m, hv'⟩ := hV_hv (M.rd (M.byteAt l) (a * 4096) 32)
  have hin : M.inB (a * 4096) 32 (P * 4096) = true := in_of (by omega) (by omega)
  have q := rread8_in w P A n c T (T + 1) a (a * 4096) ha rfl hP (M.rd (M.byteAt l) (a * 4096) 32) (M.rd_length _ _ _) _ p k o m rfl hv' (fun w1 b1 => rload_ok w1 P A n c T hP l hn (Lies.below hl b1) hok hb h0 (a * 4096) 32 1 (touch_head a).symm (by omega) (by omega) hin (by omega))
  rw [rT_in ha]
  by_cases hR : M.isH (M.rd (M.byteAt l) (a * 4096) 32) = true
  ·have eE := rE_yes ha hR
   have eV : rV P (M.byteAt l) (a : Int) = hv p k o m := by unfold rV; rw [if_pos eE, Int.toNat_natCast, hv']
   rw [if_pos hR, if_pos hR] at q
   rw [eE, eV]
   exact q
  ·have eE := rE_bad (f := M.byteAt l) ha (by simpa using hR)
   have eV : rV P (M.byteAt l) (a : Int) = hv 0 0 0 0 := by unfold rV; rw [if_neg (by omega)]
   rw [if_neg hR, if_neg hR] at q
   rw [eE, eV]
   exact q
 ·have hx' : pin P x = false := by simpa using hx
  have eE : rE P (M.byteAt l) x = 3 := by unfold rE; rw [if_neg hx]
  have eV : rV P (M.byteAt l) x = hv 0 0 0 0 := by unfold rV; rw [if_neg (by omega)]
  have eT : rT P x = 0 := by unfold rT; rw [if_neg hx]
  rw [eE, eV, eT]
  exact rread8_out w P A n c T x hx'
theorem docWrite (x p k : Int) (o m : Nat) (ho : o < 18446744073709551616) (hm : m < 18446744073709551616) :
  Calls Tryz.prog 32 #[refV P A n c T, .int .i64 x, hv p k o m] w (DocSt w P A c T l (wT P x p k) (wE P x p k) (wF P (M.byteAt l) x p k o m)) := by
 by_cases hgo : (M.right p k && pin P x) = true
 ·rw [Bool.and_eq_true] at hgo
  obtain ⟨a, rfl, ha⟩ := pin_yes hgo.2
  have hpk := (M.right_iff p k).1 hgo.1
  obtain ⟨pn, rfl⟩ : ∃ pn : Nat, p = pn := ⟨p.toNat, by omega⟩
  obtain ⟨kn, rfl⟩ : ∃ kn : Nat, k = kn := ⟨k.toNat, by omega⟩
  have eE : wE P (a : Int) pn kn = 0 := by unfold wE; rw [if_pos hgo.1, if_pos hgo.2]
  unfold wT wF
  rw [eE, if_pos rfl, if_pos rfl, Int.toNat_natCast, Int.toNat_natCast, Int.toNat_natCast]
  have hin : M.inB (a * 4096) 32 (P * 4096) = true := in_of (by omega) (by omega)
  refine rwrite8_go w P A n c T l hl a _ a pn kn o m ha hP rfl rfl hgo.1 ho hm 1 0 _ (fun w1 b1 => ?_)
  have q := docSto_ok w1 P A n c T hP l hn (Lies.below hl b1) hok hb h0 (by omega) (a * 4096) 32 (M.hd pn kn o m) (M.hd_length _ _ _ _) (by omega) (by omega) hin
  rw [touch_head] at q
  exact q
 ·have hno : (M.right p k && pin P x) = false := by simpa using hgo
  have e1 : wE P x p k = if M.right p k = true then 3 else 1 := by
   unfold wE
   by_cases h1 : M.right p k = true
   ·rw [if_pos h1, if_pos h1]
    have : pin P x = false := by simpa [h1] using hno
    rw [this]; rfl
   ·rw [if_neg h1, if_neg h1]
  have e0 : wE P x p k ≠ 0 := by rw [e1]; split <;> omega
  unfold wT wF
  rw [if_neg e0, if_neg e0]
  refine (rwrite8_no w P A n c T x p k o m (wE P x p k) _ _ rfl rfl e1 hno).mono ?_
  rintro e w' ⟨rfl, b⟩
  exact docSame hn hl hok rfl rfl b
theorem docClear (x : Int) :
  Calls Tryz.prog 39 #[refV P A n c T, .int .i64 x] w (DocSt w P A c T l (kT P (M.byteAt l) x) (rE P (M.byteAt l) x) (cF P (M.byteAt l) x)) := by
 have hrt := rT_le P x
 obtain ⟨p, k, o, m, hv'⟩ := rV_hv P (M.byteAt l) x
 have hrd : ∀ w1, Below w.heap.size w w1 → Calls Tryz.prog 38 #[refV P A n c T, .int .i64 x] w1 fun r w' => r = .returned (.tuple #[refV P A n c (T + rT P x), hv p k o m, .int .i64 (rE P (M.byteAt l) x : Nat)]) ∧ Below w1.heap.size w1 w' := fun w1 b1 => by
  have q := docRead w1 P A n c T hP l hn (Lies.below hl b1) hok hb h0 hT x
  rw [hv'] at q
  exact q
 by_cases he : rE P (M.byteAt l) x = 0
 ·obtain ⟨a, rfl, ha, hb'⟩ := rE_ok he
  have hin : M.inB (a * 4096) 32 (P * 4096) = true := in_of (by omega) (by omega)
  unfold kT cF
  rw [if_pos he, if_pos he, Int.toNat_natCast, he]
  rw [he] at hrd
  refine rclear8_go w P A n c T (T + rT P (a : Int)) l hl a _ a p k o m rfl (by omega) rfl (rT P (a : Int)) 1 0 rfl _ hrd (fun w1 b1 => ?_)
  refine (rzero_ok w1 P A n c (T + rT P (a : Int)) hP l hn (Lies.below hl b1) hok hb h0 (a * 4096) 32 (by omega) (by omega) 1 (touch_head a).symm hin (by omega)).mono ?_
  rintro e w' ⟨g, c', rfl, h2, h3, h4, b⟩
  refine ⟨_, _, c', n + 1, _, rfl, rfl, by simp [hn], h2, Or.inr ⟨g, rfl, h3, h4, by simp⟩, b, M.byteAt_zero _ _ _, by simp, fun e he => ?_⟩
  rcases List.mem_append.1 he with h | h
  ·exact hok e h
  ·simp at h
   subst h
   exact ⟨by show a * 4096 < _; omega, by show 32 < _; omega, fun h => (by cases h), Nat.zero_le _⟩
 ·unfold kT cF
  rw [if_neg he, if_neg he]
  refine (rclear8_no w P A n c T (T + rT P x) x (rE P (M.byteAt l) x) p k o m he hrd).mono ?_
  rintro e w' ⟨rfl, b⟩
  exact docSame hn hl hok rfl rfl b
end
end Go.Proofs.YtmboibipabkhaaaGreat
