/-
  The document's answers for layer 4, in the program's words.
-/
import Derived.Test.YtpcahaihlcaabaaRC3
namespace Go.Proofs.Ytpcahaihlcaabaa
open Go.ChangeShapes Go.WideShapes Go.ChangeAt Go.RowKit
set_option linter.unusedVariables false
set_option maxRecDepth 20000

section
variable (w : World) (P : Nat) (A : Option Addr) (n c T : Nat) (hP : P ≤ 1048576) (l : List M.Ent) (hn : n = l.length) (hl : LogAt w A l) (hok : ∀ e ∈ l, EntOk e) (hb : n ≤ 900) (h0 : n = 0 → A = none ∧ c = 0) (hT : T ≤ 1000000000000)
include hP hn hl hok hb h0 hT
theorem docGet (a : Nat) (y : Int) (ha : a < 18446744073709551616) :
    Calls Try.prog 13 #[refV P A n c T, .int .u64 a, .int .i64 y] w fun r w' => r = .returned (.tuple #[refV P A n c (T + gT P a y), .int .u64 (gV P (M.byteAt l) a y : Nat), .int .i64 (gE P a y : Nat)]) ∧ Below w.heap.size w w' := by
  rcases gE_cases P a y with ⟨h1, h2, h3⟩ | ⟨h1, h2, h3⟩ | ⟨h1, h3⟩
  · obtain ⟨k, rfl, hk, hd⟩ := plB_cases h1
    rw [Int.toNat_natCast] at h2
    have ht := touch_le h2 hP
    refine (rget_go w P A n c T a k hk hd ha (T + M.touched a k) (M.rd (M.byteAt l) a k) 0 (by rw [M.rd_length]; omega) (fun w1 b => rload_ok w1 P A n c T hP l hn (Lies.below hl b) hok hb h0 a k _ rfl ha (by omega) h2 (by omega))).mono ?_
    rintro e w' ⟨rfl, q⟩
    unfold gV gT
    rw [h3, if_pos rfl, if_pos rfl, Int.toNat_natCast]
    exact ⟨rfl, q⟩
  · obtain ⟨k, rfl, hk, hd⟩ := plB_cases h1
    rw [Int.toNat_natCast] at h2
    refine (rget_go w P A n c T a k hk hd ha T [] 3 (by simp) (fun w1 b => rload_no w1 P A n c T hP a k ha (by omega) h2)).mono ?_
    rintro e w' ⟨rfl, q⟩
    unfold gV gT
    rw [h3, if_neg (by omega), if_neg (by omega)]
    exact ⟨rfl, q⟩
  · refine (rget_bad w P A n c T a y ha h1).mono ?_
    rintro e w' ⟨rfl, q⟩
    unfold gV gT
    rw [h3, if_neg (by omega), if_neg (by omega)]
    exact ⟨rfl, q⟩
theorem docSto_ok (a k : Nat) (xs : List UInt8) (hxs : xs.length = k) (ha : a < 18446744073709551616) (hk : k ≤ 1048576) (hin : M.inB a k (P * 4096) = true) :
    Calls Try.prog 31 #[refV P A n c T, .int .u64 a, .string ⟨xs.toArray⟩] w (DocSt w P A c T l (M.touched a k) 0 (M.wr (M.byteAt l) a xs)) := by
  have ht := touch_le hin hP
  refine (rstore_ok w P A n c T hP l hn hl hok hb h0 a k xs hxs ha (by omega) _ rfl hk hin (by omega)).mono ?_
  rintro e w' ⟨g, c', rfl, h2, h3, h4, b⟩
  refine ⟨_, _, c', n + 1, _, rfl, rfl, by simp [hn], h2, Or.inr ⟨g, rfl, h3, h4, by simp⟩, b, ?_, by simp, fun e he => ?_⟩
  · have := M.byteAt_store l a xs
    rw [hxs] at this
    exact this
  · rcases List.mem_append.1 he with h | h
    · exact hok e h
    · simp at h
      subst h
      exact ⟨ha, by show k < _; omega, fun _ => hxs, by show xs.length ≤ _; omega⟩
theorem docSto_no (a k : Nat) (xs : List UInt8) (hxs : xs.length = k) (ha : a < 18446744073709551616) (hk : k ≤ 1048576) (hin : M.inB a k (P * 4096) = false) :
    Calls Try.prog 31 #[refV P A n c T, .int .u64 a, .string ⟨xs.toArray⟩] w (DocSt w P A c T l 0 3 (M.byteAt l)) := by
  have hu := And.intro hb (And.intro h0 hT)
  refine (rstore_no w P A n c T hP a k xs hxs ha (by omega) hin).mono ?_
  rintro e w' ⟨rfl, b⟩
  exact ⟨l, A, c, n, T, rfl, rfl, hn, Lies.below hl b, Or.inl ⟨rfl, rfl, rfl⟩, b, rfl, by omega, hok⟩
theorem docFill (a v : Nat) (y t : Int) (ha : a < 18446744073709551616) (hv : v < 18446744073709551616) :
    Calls Try.prog 19 #[refV P A n c T, .int .u64 a, .int .i64 y, .int .u64 v, .int .i64 t] w (DocSt w P A c T l (fT P a y t) (fE P a y t) (fF P (M.byteAt l) a y v t)) := by
  unfold fT fF
  rcases fE_cases P a y t with ⟨h1, h2, h3⟩ | ⟨h1, h2, h3⟩ | ⟨h1, h3⟩
  · obtain ⟨k, m, rfl, rfl, hk, hd, hm⟩ := flB_cases h1
    rw [h3, if_pos rfl, if_pos rfl]
    rw [Int.toNat_natCast, Int.toNat_natCast] at *
    have hkm := mul_top hk hm
    exact rfill_go w P A n c T l hl a k v m hk hd hm ha hv _ _ _ (fun w1 b => docSto_ok w1 P A n c T hP l hn (Lies.below hl b) hok hb h0 hT a (k * m) _ (by rw [M.rep_length, M.enc_length, Nat.mul_comm]) ha hkm h2)
  · obtain ⟨k, m, rfl, rfl, hk, hd, hm⟩ := flB_cases h1
    rw [h3, if_neg (by omega), if_neg (by omega)]
    rw [Int.toNat_natCast, Int.toNat_natCast] at h2
    have hkm := mul_top hk hm
    exact rfill_go w P A n c T l hl a k v m hk hd hm ha hv _ _ _ (fun w1 b => docSto_no w1 P A n c T hP l hn (Lies.below hl b) hok hb h0 hT a (k * m) _ (by rw [M.rep_length, M.enc_length, Nat.mul_comm]) ha hkm h2)
  · rw [h3, if_neg (by omega), if_neg (by omega)]
    refine (rfill_bad w P A n c T a v y t ha h1).mono ?_
    rintro e w' ⟨rfl, b⟩
    exact ⟨l, A, c, n, T, rfl, rfl, hn, Lies.below hl b, Or.inl ⟨rfl, rfl, rfl⟩, b, rfl, by omega, hok⟩
theorem docPut (a v : Nat) (y : Int) (ha : a < 18446744073709551616) (hv : v < 18446744073709551616) :
    Calls Try.prog 15 #[refV P A n c T, .int .u64 a, .int .i64 y, .int .u64 v] w (DocSt w P A c T l (gT P a y) (gE P a y) (pF P (M.byteAt l) a y v)) := by
  unfold gT pF
  rcases gE_cases P a y with ⟨h1, h2, h3⟩ | ⟨h1, h2, h3⟩ | ⟨h1, h3⟩
  · obtain ⟨k, rfl, hk, hd⟩ := plB_cases h1
    rw [h3, if_pos rfl, if_pos rfl]
    rw [Int.toNat_natCast] at *
    exact rput_go w P A n c T l hl a k v hk hd ha hv _ _ _ (fun w1 b => docSto_ok w1 P A n c T hP l hn (Lies.below hl b) hok hb h0 hT a k _ (M.enc_length _ _) ha (by omega) h2)
  · obtain ⟨k, rfl, hk, hd⟩ := plB_cases h1
    rw [h3, if_neg (by omega), if_neg (by omega)]
    rw [Int.toNat_natCast] at h2
    exact rput_go w P A n c T l hl a k v hk hd ha hv _ _ _ (fun w1 b => docSto_no w1 P A n c T hP l hn (Lies.below hl b) hok hb h0 hT a k _ (M.enc_length _ _) ha (by omega) h2)
  · rw [h3, if_neg (by omega), if_neg (by omega)]
    refine (rput_bad w P A n c T a v y ha h1).mono ?_
    rintro e w' ⟨rfl, b⟩
    exact ⟨l, A, c, n, T, rfl, rfl, hn, Lies.below hl b, Or.inl ⟨rfl, rfl, rfl⟩, b, rfl, by omega, hok⟩
end
/-- What the document's Add comes to. -/
def DocAd (w : World) (P : Nat) (A : Option Addr) (c T : Nat) (l : List M.Ent) (v tk err : Nat) (f' : Nat → UInt8) (r : Ending) (w' : World) : Prop :=
  ∃ l' A' c' n' T', T' = T + tk ∧ r = .returned (.tuple #[refV P A' n' c' T', .int .u64 (v : Nat), .int .i64 (err : Nat)]) ∧ n' = l'.length ∧ LogAt w' A' l' ∧ Fresh w w' A A' c c' l l' ∧ Below w.heap.size w w' ∧ M.byteAt l' = f' ∧ l'.length ≤ l.length + 1 ∧ (∀ e ∈ l', EntOk e)
set_option maxHeartbeats 4000000 in
theorem radd_no (w : World) (P : Nat) (A : Option Addr) (n c T : Nat) (a v : Nat) (y : Int) (T1 er : Nat) (hne0 : er ≠ 0)
    (hg : ∀ w1, Below w.heap.size w w1 → Calls Try.prog 13 #[refV P A n c T, .int .u64 a, .int .i64 y] w1 fun r w' => r = .returned (.tuple #[refV P A n c T1, .int .u64 0, .int .i64 (er : Nat)]) ∧ Below w1.heap.size w1 w') :
    Calls Try.prog 17 #[refV P A n c T, .int .u64 a, .int .i64 y, .int .u64 v] w fun r w' => r = .returned (.tuple #[refV P A n c T, .int .u64 0, .int .i64 (er : Nat)]) ∧ Below w.heap.size w w' := by
  have hq : (((er : Nat) : Int) != 0) = true := by simpa using hne0
  clear hne0
  have HG := Lib.hid hg
  clear hg
  go_enter Try.func17, Try.ntmps17
  go_wp2_with fail
  have t1 := two_made w (.int .i64 (P : Int)) (.slice A n c) (.int .i64 (T : Int))
  generalize (w.alloc (.cells #[.int .i64 (P : Int), .slice A n c, .int .i64 (T : Int)] 29)).alloc (.cells #[.int .i64 0, .slice none 0 0, .int .i64 0] 29) = w1 at *
  generalize hb2 : w.heap.size + 1 = b2 at t1 ⊢
  obtain ⟨b0, hb0⟩ : ∃ b0, b0 = w.heap.size := ⟨_, rfl⟩
  rw [← hb0] at t1
  have TT := Lib.hid t1
  have hne : b0 < b2 := by omega
  rw [← hb0]
  clear t1 hb2 hb0
  refine (HG.out w1 TT.out.bel).mono ?_
  rintro e w2 ⟨rfl, b2'⟩
  have t2 := TT.out.below b2'
  have hb3 : b2 < w2.heap.size := lt_of_cell t2.d0
  have T2 := Lib.hid t2
  clear t2 b2' TT
  go_upto_region 2 with fail
  have t3 := T2.out.below ((Below.refl w2.heap.size w2).alloc (Nat.le_refl _) (.cells #[.int .i64 (P : Int), .slice A n c, .int .i64 (T1 : Int)] 29))
  generalize w2.alloc (.cells #[.int .i64 (P : Int), .slice A n c, .int .i64 (T1 : Int)] 29) = w3 at *
  generalize w2.heap.size = b3 at *
  have c0 := t3.c0
  have c1 := t3.c1
  have c2 := t3.c2
  have d0 := t3.d0
  have d1 := t3.d1
  have d2 := t3.d2
  have f2 := t3.f2
  have T3 := Lib.hid t3
  clear t3 T2
  go_wp2_with fail
  refine bodyPost_ret (v := .tuple #[.agg #[.int .i64 (P : Int), .slice A n c, .int .i64 (T : Int)], .int .u64 0, .int .i64 (er : Int)]) ?_ rfl ?_
  · simp [results, go_sem, d0, d1, d2]
  · have hb := T3.out.low
    have hlt := T3.out.lt
    refine ⟨rfl, ((T3.out.bel.setCell (p := ⟨b2, 0, none⟩) (by show _ ≤ b2; omega) _).setCell (p := ⟨b2, 1, none⟩) (by show _ ≤ b2; omega) _).setCell (p := ⟨b2, 2, none⟩) (by show _ ≤ b2; omega) _⟩
set_option maxHeartbeats 4000000 in
theorem radd_go (w : World) (P : Nat) (A : Option Addr) (n c T : Nat) (l : List M.Ent) (hlg : LogAt w A l) (a v was sm : Nat) (y : Int) (T1 tk tk' : Nat) (f' : Nat → UInt8) (hT1 : T1 = T + tk) (hsm : sm = (was + v) % 18446744073709551616)
    (hg : ∀ w1, Below w.heap.size w w1 → Calls Try.prog 13 #[refV P A n c T, .int .u64 a, .int .i64 y] w1 fun r w' => r = .returned (.tuple #[refV P A n c T1, .int .u64 (was : Nat), .int .i64 0]) ∧ Below w1.heap.size w1 w')
    (hp : ∀ w1, Below w.heap.size w w1 → Calls Try.prog 15 #[refV P A n c T1, .int .u64 a, .int .i64 y, .int .u64 (sm : Nat)] w1 (DocSt w1 P A c T1 l tk' 0 f')) :
    Calls Try.prog 17 #[refV P A n c T, .int .u64 a, .int .i64 y, .int .u64 v] w (DocAd w P A c T l was (tk + tk') 0 f') := by
  have hw : IntKind.u64.wrap ((was : Int) + (v : Int)) = (sm : Int) := by rw [wrapU]; omega
  have HG := Lib.hid (And.intro hg (And.intro hp (And.intro hlg hT1)))
  clear hg hp hlg hT1 hsm
  go_enter Try.func17, Try.ntmps17
  go_wp2_with fail
  have t1 := two_made w (.int .i64 (P : Int)) (.slice A n c) (.int .i64 (T : Int))
  generalize (w.alloc (.cells #[.int .i64 (P : Int), .slice A n c, .int .i64 (T : Int)] 29)).alloc (.cells #[.int .i64 0, .slice none 0 0, .int .i64 0] 29) = w1 at *
  generalize hb2 : w.heap.size + 1 = b2 at t1 ⊢
  obtain ⟨b0, hb0⟩ : ∃ b0, b0 = w.heap.size := ⟨_, rfl⟩
  rw [← hb0] at t1
  have TT := Lib.hid t1
  have hne : b0 < b2 := by omega
  rw [← hb0]
  clear t1 hb2 hb0
  refine (HG.out.1 w1 TT.out.bel).mono ?_
  rintro e w2 ⟨rfl, b2'⟩
  have t2 := TT.out.below b2'
  have hb3 : b2 < w2.heap.size := lt_of_cell t2.d0
  have T2 := Lib.hid t2
  clear t2 b2' TT
  go_upto_region 2 with fail
  have t3 := T2.out.below ((Below.refl w2.heap.size w2).alloc (Nat.le_refl _) (.cells #[.int .i64 (P : Int), .slice A n c, .int .i64 (T1 : Int)] 29))
  have e0 := World.cell?_alloc_mark w2 #[.int .i64 (P : Int), .slice A n c, .int .i64 (T1 : Int)] 29 (0, 0) 0
  have e1 := World.cell?_alloc_mark w2 #[.int .i64 (P : Int), .slice A n c, .int .i64 (T1 : Int)] 29 (0, 0) 1
  have e2 := World.cell?_alloc_mark w2 #[.int .i64 (P : Int), .slice A n c, .int .i64 (T1 : Int)] 29 (0, 0) 2
  simp only [List.getElem?_toArray, List.getElem?_cons_zero, List.getElem?_cons_succ] at e0 e1 e2
  generalize w2.alloc (.cells #[.int .i64 (P : Int), .slice A n c, .int .i64 (T1 : Int)] 29) = w3 at *
  generalize w2.heap.size = b3 at *
  have T3 := Lib.hid t3
  clear t3 T2
  go_wp2_with fail
  refine (HG.out.2.1 w3 T3.out.bel).mono ?_
  rintro e w5 ⟨l', A', c', n', T', hT', rfl, hn', hlog, hfr, b5, hrest⟩
  have t5 := T3.out.below b5
  have hb5 : b2 < w5.heap.size := lt_of_cell t5.d0
  have b6 : Below w3.heap.size w3 (w5.alloc (.cells #[.int .i64 (P : Int), .slice A' n' c', .int .i64 (T' : Int)] 29)) := b5.alloc b5.size _
  have hlog6 : LogAt (w5.alloc (.cells #[.int .i64 (P : Int), .slice A' n' c', .int .i64 (T' : Int)] 29)) A' l' := Lies.alloc hlog _
  have hfr6 : Fresh w3 (w5.alloc (.cells #[.int .i64 (P : Int), .slice A' n' c', .int .i64 (T' : Int)] 29)) A A' c c' l l' := by
    rcases hfr with h | ⟨g, h1, h2, h3, h4⟩
    · exact Or.inl h
    · exact Or.inr ⟨g, h1, h2, Nat.lt_of_lt_of_le h3 (le_alloc _ _), h4⟩
  have t6 := T3.out.below b6
  have PP := Lib.hid (And.intro (sto_end (v0 := .int .i64 (P : Int)) (v1 := .slice A' n' c') (v2 := .int .i64 (T' : Int)) HG.out.2.2.1 T3.out.bel (Nat.le_trans T3.out.low (Nat.le_of_lt T3.out.lt)) (lt_of_cell T3.out.d0) b6 hlog6 hfr6) (And.intro hT' (And.intro hn' hrest)))
  clear e0 e1 e2 b6 hlog6 hfr6 t5 hlog hfr b5 hT' hn' hrest
  go_upto_region 5 with fail
  have e0 := World.cell?_alloc_mark w5 #[.int .i64 (P : Int), .slice A' n' c', .int .i64 (T' : Int)] 29 (0, 0) 0
  have e1 := World.cell?_alloc_mark w5 #[.int .i64 (P : Int), .slice A' n' c', .int .i64 (T' : Int)] 29 (0, 0) 1
  have e2 := World.cell?_alloc_mark w5 #[.int .i64 (P : Int), .slice A' n' c', .int .i64 (T' : Int)] 29 (0, 0) 2
  simp only [List.getElem?_toArray, List.getElem?_cons_zero, List.getElem?_cons_succ] at e0 e1 e2
  generalize w5.alloc (.cells #[.int .i64 (P : Int), .slice A' n' c', .int .i64 (T' : Int)] 29) = w6 at *
  generalize w5.heap.size = b4 at *
  have d0 := t6.d0
  have d1 := t6.d1
  have d2 := t6.d2
  have f2 := t6.f2
  clear t6
  have hne4 : b2 ≠ b4 := by omega
  have hne5 : b4 ≠ b2 := by omega
  go_wp2_with fail
  refine bodyPost_ret (v := .tuple #[.agg #[.int .i64 (P : Int), .slice A' n' c', .int .i64 (T' : Int)], .int .u64 (was : Int), .int .i64 0]) ?_ rfl ?_
  · simp [results, go_sem, d0, d1, d2]
  · exact ⟨l', A', c', n', T', by rw [PP.out.2.1, HG.out.2.2.2, Nat.add_assoc], rfl, PP.out.2.2.1, PP.out.1.1, PP.out.1.2.1, PP.out.1.2.2, PP.out.2.2.2⟩
theorem docAdd (w : World) (P : Nat) (A : Option Addr) (n c T : Nat) (hP : P ≤ 1048576) (l : List M.Ent) (hn : n = l.length) (hl : LogAt w A l) (hok : ∀ e ∈ l, EntOk e) (hb : n ≤ 900) (h0 : n = 0 → A = none ∧ c = 0) (hT : T ≤ 900000000000) (a v : Nat) (y : Int) (ha : a < 18446744073709551616) (hv : v < 18446744073709551616) :
    Calls Try.prog 17 #[refV P A n c T, .int .u64 a, .int .i64 y, .int .u64 v] w (DocAd w P A c T l (gV P (M.byteAt l) a y) (aT P a y) (gE P a y) (aF P (M.byteAt l) a y v)) := by
  have hg := gT_le (a := a) (y := y) hP
  unfold aT aF
  by_cases hE : gE P a y = 0
  · rw [hE]
    refine radd_go w P A n c T l hl a v (gV P (M.byteAt l) a y) (aS P (M.byteAt l) a y v) y (T + gT P a y) (gT P a y) (gT P a y) _ rfl rfl (fun w1 b => ?_) (fun w1 b => ?_)
    · have h := docGet w1 P A n c T hP l hn (Lies.below hl b) hok hb h0 (by omega) a y ha
      rw [hE] at h
      exact h
    · have h := docPut w1 P A n c (T + gT P a y) hP l hn (Lies.below hl b) hok hb h0 (by omega) a (aS P (M.byteAt l) a y v) y ha (Nat.mod_lt _ (by omega))
      rw [hE] at h
      exact h
  · have e1 : gV P (M.byteAt l) a y = 0 := by unfold gV; rw [if_neg hE]
    have e2 : gT P a y = 0 := by unfold gT; rw [if_neg hE]
    have e3 : pF P (M.byteAt l) a y (aS P (M.byteAt l) a y v) = M.byteAt l := by unfold pF; rw [if_neg hE]
    rw [e1, e2, e3]
    refine (radd_no w P A n c T a v y T (gE P a y) hE (fun w1 b => ?_)).mono ?_
    · have h := docGet w1 P A n c T hP l hn (Lies.below hl b) hok hb h0 (by omega) a y ha
      rw [e1, e2] at h
      exact h
    · rintro e w' ⟨rfl, b⟩
      exact ⟨l, A, c, n, T, rfl, rfl, hn, Lies.below hl b, Or.inl ⟨rfl, rfl, rfl⟩, b, rfl, by omega, hok⟩
end Go.Proofs.Ytpcahaihlcaabaa
