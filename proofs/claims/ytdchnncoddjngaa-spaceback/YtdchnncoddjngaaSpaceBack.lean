/-
  SpaceBack is true whatever the input: what is stored is loaded, and the bytes ahead of it and behind it are as they were; no conditions.
-/
import Derived.Test.YtdchnncoddjngaaRows
import Derived.WalkKit
import Derived.ProofKit
import Derived.OpenShut
import Derived.ShutString
import Derived.ChangeOld
import Derived.Below
import Derived.Test.YtdchnncoddjngaaLaw
import Derived.Deep.DeepCutAuto
namespace Go.Proofs.Ytdchnncoddjngaa.spaceBack
open Go.ChangeShapes Go.WideShapes Go.ChangeAt Go.RowKit
set_option linter.unusedVariables false

theorem own : ownKnob Try.prog.godebug = none := by kernel_rfl

theorem at_of (f : Nat → UInt8) (xs : List UInt8) (low i m n j a : Nat) (hn : n = xs.length) (ha : low + i = a) (hj : j = i + n) (hm : j ≤ m) :
    (M.rd (M.wr f a xs) low m).take i = M.rd f low i ∧ (M.rd f low m).take i = M.rd f low i ∧ ((M.rd (M.wr f a xs) low m).drop i).take (j - i) = xs ∧ (M.rd (M.wr f a xs) low m).drop j = M.rd f (low + j) (m - j) ∧ (M.rd f low m).drop j = M.rd f (low + j) (m - j) := by
  refine ⟨?_, M.rd_take _ _ _ _ (by omega), ?_, ?_, M.rd_drop _ _ _ _ hm⟩
  · rw [M.rd_take _ _ _ _ (by omega)]
    exact M.rd_wr_apart _ _ _ _ _ (Or.inl (by omega))
  · rw [M.rd_drop _ _ _ _ (by omega), M.rd_take _ _ _ _ (by omega), ha, show j - i = xs.length by omega, M.rd_wr]
  · rw [M.rd_drop _ _ _ _ hm]
    exact M.rd_wr_apart _ _ _ _ _ (Or.inr (by omega))

/-! The walk. -/
set_option maxRecDepth 20000 in
set_option maxHeartbeats 1000000 in
theorem walk (a0 : Int) (a1 : Option Addr) (len1 cap1 : Nat) (a2 : Int) (a3 : Option Addr) (len3 cap3 : Nat) (z3 : List Int) (a4 : Int) (w : World) (w0 : (Lit.int .u8 a0).wf = true) (w1 : IsActs w a1 len1) (w2 : (Lit.int .u64 a2).wf = true) (w3 : IsRow .u8 w a3 len3 cap3 z3) (w4 : (Lit.int .u8 a4).wf = true) :
    Calls Try.prog 4 #[.int .u8 a0, .slice a1 len1 cap1, .int .u64 a2, .slice a3 len3 cap3, .int .u8 a4] w fun e w' => e = .returned (.bool true) ∧ Below w.heap.size w w' := by
  obtain ⟨p, hp, rfl⟩ := u8_nat w0
  obtain ⟨hlen, ls, hls, hacts⟩ := w1
  obtain ⟨at', hat, rfl⟩ := u64_nat w2
  have hbt := row_top w3
  obtain ⟨xs, hxs, hlies⟩ := row_u8 w3
  have hcap := row_u8c w3
  obtain ⟨k, hk, rfl⟩ := u8_nat w4
  have HA := Lib.hid (show len1 = ls.length ∧ Acts w a1 ls from ⟨hls, hacts⟩)
  have HX := Lib.hid (show len3 = xs.length ∧ Lies w a3 (u8s xs) ∧ len3 ≤ cap3 from ⟨hxs, hlies, hcap⟩)
  clear w0 w2 w3 w4 hls hacts hxs hlies hcap
  obtain ⟨P, hP⟩ : ∃ P : Nat, P = max p 1 := ⟨_, rfl⟩
  obtain ⟨Z, hZ⟩ : ∃ Z : Nat, Z = P * 4096 := ⟨_, rfl⟩
  have hZ' : Z ≤ 1044480 := by omega
  have HZ := Lib.hid (show P = max p 1 ∧ Z = P * 4096 from ⟨hP, hZ⟩)
  clear hP hZ
  go_enter Try.func4, Try.ntmps4
  go_wp2_with fail
  refine (awake_any _).mono ?_
  rintro e w1 ⟨rfl, b1⟩
  have B1 := Lib.hid b1
  clear b1
  go_wp2_with fail
  refine (few_any w1 a1 ls len1 cap1 HA.out.1 (HA.out.2.below B1.out) hlen).mono ?_
  rintro e w' ⟨rfl, rfl⟩
  by_cases hf : fewB ls = true
  · have hl30 := fewB_len hf
    by_cases hb9 : 9000 < len3
    · have d9 : decide ((9000 : Int) < (len3 : Int)) = true := by simp; omega
      clear hb9
      go_wp2
      go_ret
      exact ⟨rfl, B1.out⟩
    · have d9 : decide ((9000 : Int) < (len3 : Int)) = false := by simp; omega
      have hn9 : len3 ≤ 9000 := by omega
      go_wp2_with fail
      refine (at_new (w0 := w) B1.out _ P (by have := HZ.out; omega)).mono ?_
      rintro e w2 ⟨s, O2, rfl, A2⟩
      have H2 := Lib.hid A2
      clear A2 d9 hb9
      go_wp2_with fail
      refine (at_play HA.out.1 HA.out.2 (by have := HA.out.1; omega) H2.out (by omega)).mono ?_
      rintro e w3 ⟨rfl, f, T, O, hT, A3, _, _⟩
      have HT := Lib.hid hT
      have H3 := Lib.hid A3
      clear A3 hT H2
      go_wp2_with fail
      refine (size_at H3.out Z HZ.out.2).mono ?_
      rintro e w' ⟨rfl, rfl⟩
      by_cases hz : Z < at'
      · go_wp2_with fail
        refine (store_range H3.out.sp at' len3 cap3 a3 hbt hat (out_of (by have := HZ.out; omega))).mono ?_
        rintro e w4 ⟨rfl, b4⟩
        have B4 := Lib.hid (below_call H3.out.bel b4)
        clear b4
        go_wp2
        go_ret
        exact ⟨rfl, B4.out⟩
      · obtain ⟨r, hr⟩ : ∃ r : Nat, (Z : Int) - (at' : Int) = (r : Int) := ⟨Z - at', by omega⟩
        have hrb : r ≤ Z := by omega
        have hr' : r + at' = Z := by omega
        have hwr : IntKind.u64.wrap (r : Int) = (r : Int) := by rw [wrapU]; omega
        have HR := Lib.hid hr'
        have hz2 : at' ≤ Z := by omega
        clear hr'
        go_wp2_with fail
        refine (size_at H3.out Z HZ.out.2).mono ?_
        rintro e w' ⟨rfl, rfl⟩
        by_cases hn : r < len3
        · go_wp2_with fail
          refine (store_range H3.out.sp at' len3 cap3 a3 hbt hat (out_of (by have := HZ.out; have := HR.out; omega))).mono ?_
          rintro e w4 ⟨rfl, b4⟩
          have B4 := Lib.hid (below_call H3.out.bel b4)
          clear b4
          go_wp2
          go_ret
          exact ⟨rfl, B4.out⟩
        · obtain ⟨low, hlow⟩ : ∃ low, low = at' - min at' k := ⟨_, rfl⟩
          have HLW := Lib.hid hlow
          clear hlow
          have hn' : len3 ≤ r := by omega
          have HAT := Lib.hid hat
          have HBT := Lib.hid hbt
          have HLN := Lib.hid hlen
          clear hn hf hat hbt hlen
          go_upto_region 13 with fail
          clear hwr hr
          go_cut [16] (fun s16 wx => s16 = .int .u64 (low : Int) ∧ wx = w3)
          case first =>
            by_cases hak : at' ≤ k
            · obtain rfl : low = 0 := by have := HLW.out; omega
              go_wp2_with fail
              all_goals (go_meet; exact ⟨by congr 1 <;> omega, rfl⟩)
            · have hs : (at' : Int) - (k : Int) = (low : Int) := by have := HLW.out; omega
              have hwl : IntKind.u64.wrap (low : Int) = (low : Int) := by rw [wrapU]; omega
              go_wp2_with fail
              all_goals (go_meet; exact ⟨by congr 1 <;> omega, rfl⟩)
          case rest =>
            obtain ⟨rfl, hw⟩ := hcut
            have hw := hw.symm
            subst hw
            obtain ⟨high, hhigh⟩ : ∃ high, high = min (at' + len3 + k) Z := ⟨_, rfl⟩
            have HHG := Lib.hid hhigh
            clear hhigh
            go_upto_region 14 with fail
            go_cut [17] (fun s17 wx => s17 = .int .u64 (high : Int) ∧ wx = w3)
            case first =>
              go_wp2_with fail
              refine (size_at H3.out Z HZ.out.2).mono ?_
              rintro e w' ⟨rfl, rfl⟩
              by_cases hah : at' + len3 + k ≤ Z
              · have e1 : high = at' + len3 + k := by have := HHG.out; omega
                have E1 := Lib.hid e1
                clear e1
                go_wp2_with fail
                all_goals (go_meet; have := E1.out; exact ⟨by congr 1 <;> omega, rfl⟩)
              · have e1 : high = Z := by have := HHG.out; omega
                have E1 := Lib.hid e1
                clear e1
                go_wp2_with fail
                all_goals (go_meet; have := E1.out; exact ⟨by congr 1 <;> omega, rfl⟩)
            case rest =>
              obtain ⟨rfl, hw⟩ := hcut
              have hw := hw.symm
              subst hw
              obtain ⟨m, hm⟩ : ∃ m : Nat, (high : Int) - (low : Int) = (m : Int) := ⟨high - low, by have := HLW.out; have := HHG.out; omega⟩
              have hwm : IntKind.u64.wrap (m : Int) = (m : Int) := by rw [wrapU]; have := HHG.out; omega
              obtain ⟨i, hi⟩ : ∃ i : Nat, (at' : Int) - (low : Int) = (i : Int) := ⟨at' - low, by have := HLW.out; omega⟩
              have hwi : IntKind.u64.wrap (i : Int) = (i : Int) := by rw [wrapU]; omega
              obtain ⟨j, hj⟩ : ∃ j : Nat, j = i + len3 := ⟨_, rfl⟩
              have hi1 : i ≤ 255 := by have := HLW.out; omega
              have HM := Lib.hid (show high = low + m ∧ at' = low + i ∧ j = i + len3 ∧ j ≤ m ∧ high ≤ Z ∧ m ≤ 10000 ∧ low ≤ at' by have := HLW.out; have := HHG.out; have := HR.out; refine ⟨?_, ?_, ?_, ?_, ?_, ?_, ?_⟩ <;> omega)
              have t1 := H3.out.tl low m (by have := HM.out; have := HZ.out; omega)
              have t2 := H3.out.tl at' len3 (by have := HR.out; have := HZ.out; omega)
              have HT2 := Lib.hid (show M.touched low m ≤ 1048578 ∧ M.touched at' len3 ≤ 1048578 from ⟨t1, t2⟩)
              have hlh : low ≤ high := by have := HM.out; omega
              have hla : low ≤ at' := by have := HM.out; omega
              clear t1 t2 hj
              go_wp2_with fail
              refine (at_load H3.out low m (by have := HM.out; have := HZ.out; omega) (by have := HM.out; omega) (by have := HT.out; omega)).mono ?_
              rintro e w4 ⟨g4, rfl, A4, L4, k4, _, _⟩
              have H4 := Lib.hid A4
              have HL4 := Lib.hid L4
              clear A4 L4 k4
              go_wp2_with fail
              refine (at_store H4.out at' len3 cap3 a3 xs HX.out.1 (HX.out.2.1.below H4.out.bel) HX.out.2.2 (fun h0 ad e => H4.out.low (lies_low HX.out.2.1 h0 ad e)) (by have := HR.out; have := HZ.out; omega) (by omega) (by have := HT.out; have := HT2.out; omega)).mono ?_
              rintro e w5 ⟨rfl, A5, k5⟩
              have HL5 := Lib.hid (HL4.out.wid k5)
              have H5 := Lib.hid A5
              clear A5 k5 HL4
              go_wp2_with fail
              refine (at_load H5.out low m (by have := HM.out; have := HZ.out; omega) (by have := HM.out; omega) (by have := HT.out; have := HT2.out; omega)).mono ?_
              rintro e w6 ⟨g6, rfl, A6, L6, k6, _, _⟩
              have HL6 := Lib.hid (HL5.out.kept k6)
              have HN6 := Lib.hid L6
              have B6 := Lib.hid A6.bel
              clear A6 L6 k6 HL5
              obtain ⟨m1, m2, m3, m4, m5⟩ := at_of f xs low i m len3 j at' HX.out.1 (by have := HM.out; omega) (by have := HM.out; omega) (by have := HM.out; omega)
              obtain ⟨A1, c1, r1, l1⟩ := cut_to (some ⟨g6, 0, none⟩) m m i (i : Int) rfl (by have := HM.out; omega)
              obtain ⟨A2, c2, r2, l2⟩ := cut_to (some ⟨g4, 0, none⟩) m m i (i : Int) rfl (by have := HM.out; omega)
              obtain ⟨A3, c3, r3, l3⟩ := cut_mid (some ⟨g6, 0, none⟩) m m i j (i : Int) (j : Int) rfl rfl (by have := HM.out; omega) (by have := HM.out; omega) (Nat.le_refl _)
              obtain ⟨A4, c4, r4, l4⟩ := cut_from (some ⟨g6, 0, none⟩) m m j (j : Int) rfl (by have := HM.out; omega) (Nat.le_refl _)
              obtain ⟨A5, c5, r5, l5⟩ := cut_from (some ⟨g4, 0, none⟩) m m j (j : Int) rfl (by have := HM.out; omega) (Nat.le_refl _)
              have n6 : ∀ q, Lies (w6.drewN q) (some ⟨g6, 0, none⟩) (u8s (M.rd (M.wr f at' xs) low m)) := fun q => HN6.out.own.lies
              have n4 : ∀ q, Lies (w6.drewN q) (some ⟨g4, 0, none⟩) (u8s (M.rd f low m)) := fun q => HL6.out.own.lies
              have u6 : (u8s (M.rd (M.wr f at' xs) low m)).length = m := by rw [u8s_length, M.rd_length]
              have u4 : (u8s (M.rd f low m)).length = m := by rw [u8s_length, M.rd_length]
              have q1 := fun q => conv_at (w6.drewN q) A1 i (M.rd f low i) c1 (M.rd_length _ _ _).symm (by have := l1 (w6.drewN q) _ (n6 q); rw [← u8s_take, m1] at this; exact this)
              have q2 := fun q => conv_at (w6.drewN q) A2 i (M.rd f low i) c2 (M.rd_length _ _ _).symm (by have := l2 (w6.drewN q) _ (n4 q); rw [← u8s_take, m2] at this; exact this)
              have q3 := fun q => conv_at (w6.drewN q) A3 (j - i) xs c3 (by have := HM.out; have := HX.out.1; omega) (by have := l3 (w6.drewN q) _ u6 (n6 q); rw [← u8s_drop, ← u8s_take, m3] at this; exact this)
              have q4 := fun q => conv_at (w6.drewN q) A4 (m - j) (M.rd f (low + j) (m - j)) c4 (M.rd_length _ _ _).symm (by have := l4 (w6.drewN q) _ u6 (n6 q); rw [← u8s_drop, m4] at this; exact this)
              have q5 := fun q => conv_at (w6.drewN q) A5 (m - j) (M.rd f (low + j) (m - j)) c5 (M.rd_length _ _ _).symm (by have := l5 (w6.drewN q) _ u4 (n4 q); rw [← u8s_drop, m5] at this; exact this)
              have q6 := fun q => conv_at (w6.drewN q) a3 len3 xs cap3 HX.out.1 (HX.out.2.1.below (below_drewN' B6.out q))
              have hsum : IntKind.i64.wrap ((i : Int) + (len3 : Int)) = (j : Int) := by rw [IntWalk.i64_in _ (by omega)]; have := HM.out; omega
              generalize M.rd f low i = Q1 at q1 q2
              generalize M.rd f (low + j) (m - j) = Q3 at q4 q5
              clear m1 m2 m3 m4 m5 l1 l2 l3 l4 l5 n6 n4 u6 u4 H5 H4 H3 HL6 HN6
              go_wp2_with fail
              go_quiet (fail)
              go_wp2
              go_ret
              exact ⟨rfl, below_drewN' B6.out _⟩
  · have hf' : fewB ls = false := by simpa using hf
    clear hf
    go_wp2
    go_ret
    exact ⟨rfl, B1.out⟩

/-! The row's step. -/
set_option maxRecDepth 100000 in
theorem lifted (os : Os) (started : os.Started) (H : Type) (enc : TypeId × Value → H) :
    ReturnsInHanded {} Try.checked os 4 .any (Rows.spaceBackSpec.pre6 enc Try.prog Try.f4 Rows.spaceBackRow.domain false) (Rows.spaceBackSpec.post enc Try.prog Try.f4 false true false false) := by
  refine returnsInHanded_of_change (C := Try.checked) own started (by kernel_rfl) Try.func4
    (ChangeSpec.witness6 (enc := enc) (C := Try.checked) false ⟨#[], #[.int .u8 0, .slice none 0 0, .int .u64 0, .slice none 0 0, .int .u8 0], []⟩ 8 (by kernel_rfl) (by kernel_rfl) (by kernel_rfl) (by kernel_rfl)) ?_
  intro W base args ds gs before hval0 hW hcnd _
  have hval : ∀ (j : Nat) t v, Try.f4.params[j]? = some t → args[j]? = some v → Value.okWide Try.prog W .any base t v := hval0
  have hW' := hW
  obtain ⟨p, q, hA0, hV, rfl, hfz, hnd⟩ := hW
  have hA : DataW.TrodAll enc Try.prog W 0 (fun _ => true) true Try.f4.params.toList args.toList ds p := hA0
  rw [Try.params4] at hA hval
  obtain ⟨v0, vs0, d0, ds0, p0, q0, hargs, rfl, rfl, h0, r0⟩ := trodAll_cons hA
  obtain ⟨v1, vs1, d1, ds1, p1, q1, rfl, rfl, rfl, h1, r1⟩ := trodAll_cons r0
  obtain ⟨v2, vs2, d2, ds2, p2, q2, rfl, rfl, rfl, h2, r2⟩ := trodAll_cons r1
  obtain ⟨v3, vs3, d3, ds3, p3, q3, rfl, rfl, rfl, h3, r3⟩ := trodAll_cons r2
  obtain ⟨v4, vs4, d4, ds4, p4, q4, rfl, rfl, rfl, h4, r4⟩ := trodAll_cons r3
  obtain ⟨rfl, rfl, rfl⟩ := trodAll_nil r4
  obtain rfl : args = #[v0, v1, v2, v3, v4] := by cases args; simp_all
  obtain ⟨rfl, rfl⟩ := trodVars_none hV
  obtain ⟨a0, rfl, rfl, rfl, w0⟩ := open_int Try.underlying5 (hval 0 5 v0 rfl rfl) h0
  obtain ⟨a1, len1, cap1, rfl⟩ := okWide_slice Try.underlying22 (hval 1 22 v1 rfl rfl)
  have k1 := h1
  have lt1 : ∀ x ∈ p1, x.block < W.heap.size := by obtain ⟨m, hm⟩ := k1; exact DataW.trod_lt m _ _ _ hm
  have w1 : IsActs W a1 len1 := by
    obtain ⟨fuel, hf⟩ := h1
    obtain ⟨A, l, c, hcs, hw⟩ := acts_open hf
    simp [Value.cells] at hcs
    obtain ⟨rfl, rfl, rfl⟩ := hcs
    exact hw
  obtain ⟨a2, rfl, rfl, rfl, w2⟩ := open_int Try.underlying31 (hval 2 31 v2 rfl rfl) h2
  obtain ⟨a3, len3, cap3, rfl⟩ := okWide_slice Try.underlying32 (hval 3 32 v3 rfl rfl)
  have k3 := h3
  have lt3 : ∀ x ∈ p3, x.block < W.heap.size := by obtain ⟨m, hm⟩ := k3; exact DataW.trod_lt m _ _ _ hm
  obtain ⟨z3, w3⟩ : ∃ zs, IsRow .u8 W a3 len3 cap3 zs := by
    obtain ⟨fuel, hf⟩ := h3
    rcases open_ints Try.underlying32 Try.underlying5 (by kernel_rfl) hf with ⟨hcs, _⟩ | ⟨x, l, c, zs, hcs, _, hl, hm, hz, _, hcell, hwz⟩
    · simp [Value.cells] at hcs
      obtain ⟨rfl, rfl, rfl⟩ := hcs
      exact ⟨[], .inl ⟨rfl, rfl, rfl, rfl⟩⟩
    · simp [Value.cells] at hcs
      obtain ⟨rfl, rfl, rfl⟩ := hcs
      exact ⟨zs, .inr ⟨_, rfl, hl, hm, by simpa using hz, hcell, hwz⟩⟩
  obtain ⟨a4, rfl, rfl, rfl, w4⟩ := open_int Try.underlying5 (hval 4 5 v4 rfl rfl) h4
  clear hA0 hval0
  refine (walk a0 a1 len1 cap1 a2 a3 len3 cap3 z3 a4 W w0 w1 w2 w3 w4).mono fun e W' ⟨he, bel⟩ => ?_
  subst he
  exact ⟨_, rfl, _, _, _, [], _, [], hW', trodAll_mk1 (shut_bool Try.underlying4 _), (trodAll_cons_mk (shut_int Try.underlying5 w0) (trodAll_cons_mk (Below.trod laidOut (by kernel_rfl) (of_decide_eq_true (by kernel_rfl)) k1 bel lt1) (trodAll_cons_mk (shut_int Try.underlying31 w2) (trodAll_cons_mk (Below.trod laidOut (by kernel_rfl) (of_decide_eq_true (by kernel_rfl)) k3 bel lt3) (trodAll_cons_mk (shut_int Try.underlying5 w4) trodAll_mk0))))), rfl, bel.frame _, fun h => by cases h⟩

theorem over : Rows.spaceBackRow.holds Try.pinned (OpenSpec.ofChange Rows.spaceBackSpec) :=
  OpenClaim.holds_of_wide 4 Try.f4 rfl rfl rfl rfl rfl rfl rfl ⟨rfl, rfl, rfl, rfl, rfl⟩ rfl rfl rfl rfl rfl (by kernel_rfl) Try.func4 (by kernel_rfl)
    (of_decide_eq_true (by kernel_rfl)) (by unfold Func.isWrapper; first | (rw [if_pos (by decide +kernel)]; kernel_rfl) | (rw [if_neg (by decide +kernel)]; exact ⟨rfl, rfl⟩))
    (fun os started H enc _ => lifted os started H enc)

/-- The statement. -/
theorem proved : Rows.SpaceBackSaid := over
#print axioms proved
end Go.Proofs.Ytdchnncoddjngaa.spaceBack
