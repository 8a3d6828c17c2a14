/-
  CacheTurns is true whatever the input: pushes and pops of one class, by turns, keep what a pile would, nothing is kept twice by one push, and two caches play no part for one another; no conditions.
-/
import Derived.Test.YteiiiapjloincaaRows
import Derived.WalkKit
import Derived.ProofKit
import Derived.OpenShut
import Derived.ShutString
import Derived.ChangeOld
import Derived.Below
import Derived.Test.YteiiiapjloincaaT9
namespace Go.Proofs.Yteiiiapjloincaa.cacheTurns
open Go.ChangeShapes Go.WideShapes Go.ChangeAt Go.RowKit
set_option linter.unusedVariables false

theorem own : ownKnob Try.prog.godebug = none := by kernel_rfl

/-! The walk. -/
set_option maxRecDepth 20000 in
set_option maxHeartbeats 20000000 in
theorem walk (a0 : Option Addr) (len0 cap0 : Nat) (a1 : Int) (w : World) (w0 : IsBools w a0 len0) (w1 : (Lit.int .u8 a1).wf = true) :
    Calls Try.prog 7 #[.slice a0 len0 cap0, .int .u8 a1] w fun e w' => e = .returned (.bool true) ∧ Below w.heap.size w w' := by
  obtain ⟨hl0, ts, hts, hta⟩ := w0
  obtain ⟨n1, hn1, rfl⟩ := u8_nat w1
  have HL := Lib.hid (And.intro hts hta)
  clear w1 hts hta
  go_enter Try.func7, Try.ntmps7
  go_wp2_with fail
  refine (awake_any _).mono ?_
  rintro e w1 ⟨rfl, b1⟩
  have B1 := Lib.hid b1
  clear b1
  by_cases h60 : 60 < len0
  · have d1 : decide ((60 : Int) < (len0 : Int)) = true := by simp; omega
    clear h60
    go_wp2_with fail
    go_ret
    exact ⟨rfl, B1.out⟩
  have d1 : decide ((60 : Int) < (len0 : Int)) = false := by simp; omega
  go_wp2_with fail
  refine (k_new B1.out).mono ?_
  rintro e w2 ⟨g, rfl, k2, b2, hg2⟩
  have K2 := Lib.hid k2
  clear k2 b2 hg2
  obtain ⟨c, hc⟩ : ∃ c : Int, (n1 : Int) % 7 = c := ⟨_, rfl⟩
  have c0 : 0 ≤ c := by omega
  have c7 : c < 7 := by omega
  rw [hc]
  have C0 := Lib.hid (And.intro c0 c7)
  clear c0 c7 hc
  go_wp2_with fail
  refine (k_new K2.out.bel).mono ?_
  rintro e w3 ⟨gd, rfl, k3, b3, hgd⟩
  have k2' := K2.out.below b3
  rw [← M.only_nil c] at k2'
  have hlt1 := K2.out.has.lt
  have hlt3 := k3.has.lt
  have T3 := Lib.hid (show Turn w w3 w3.heap.size g gd c none 0 0 [] from ⟨k2', k3, by omega, ⟨by omega, hlt3⟩, k3.bel.size, Nat.le_refl _, rfl, World.ownsRow_nil _ _ _ _⟩)
  clear k3 b3 hgd k2' hlt1 hlt3 K2
  obtain ⟨B, hB⟩ : ∃ B, B = w3.heap.size := ⟨_, rfl⟩
  rw [← hB] at T3
  obtain ⟨q, hq⟩ : ∃ q : Int, M.pg c = q := ⟨_, rfl⟩
  have HQ := Lib.hid hq
  obtain ⟨i0, hi0⟩ := info_int9
  have HI := Lib.hid hi0
  clear hB hq hi0
  go_wp2_with fail
  go_loopw [9, 10, 11, 12, 13] (fun v i _ _ _ wr => ∃ (m : Nat) (A : Option Addr) (n cap : Nat) (L : List Int), m ≤ len0 ∧ i = .int .i64 (m : Int) ∧ v = .slice A n cap ∧ Turn w wr B g gd c A n cap L) (fun v i _ _ _ _ => len0 - (intOf i).toNat)
  case atStart => exact ⟨0, _, _, _, _, by omega, rfl, rfl, T3.out⟩
  case round =>
    obtain ⟨m, A, n, cap, L, hm, rfl, rfl, ht⟩ := hrel
    clear T3
    have T := Lib.hid ht
    have hn4 := ht.len
    clear ht
    by_cases hlt : m < len0
    · have hml : m < ts.length := by have := HL.out.1; omega
      obtain ⟨bl, o, rfl, hcell⟩ := HL.out.2 (by omega)
      have cm := (T.out.kc.bel.cell (lt_of_cell (hcell m hml))).trans (hcell m hml)
      obtain ⟨b, hb⟩ : ∃ b, b = ts[m] := ⟨_, rfl⟩
      rw [← hb] at cm
      clear hcell hb hml
      cases b with
      | true =>
        by_cases hn : n < 4
        · have st := M.only_push (c := c) (x := (m : Int)) (L := L) C0.out.1 C0.out.2 (by omega) (by rw [← T.out.nn]; exact hn)
          have ST := Lib.hid st
          have d4 : decide ((n : Int) < 4) = true := by simp; omega
          clear st
          go_wp2_with fail
          refine (k_push T.out.kc c m).mono ?_
          rintro e w4 ⟨rfl, k4, g4⟩
          rw [ST.out.1]
          rw [ST.out.2] at k4
          have b5 : Below w4.heap.size w4 (w4.alloc (.cells #[.int .i64 (m : Int)] 3)) := (Below.refl _ _).alloc (Nat.le_refl _) _
          have n7 : (w4.alloc (.cells #[.int .i64 (m : Int)] 3)).cell? ⟨w4.heap.size, 0, none⟩ = some (.int .i64 (m : Int)) := World.cell?_alloc_mark _ _ _ _ _
          have OWN := Lib.hid ((T.out.grown k4 g4).2.1.alloc (.cells #[.int .i64 (m : Int)] 3))
          have HW := Lib.hid (show B ≤ (w4.alloc (.cells #[.int .i64 (m : Int)] 3)).heap.size from Nat.le_trans (T.out.grown k4 g4).2.2 b5.size)
          have NEW := Lib.hid (show ∀ j u, (intsI [(m : Int)])[j]? = some u → (w4.alloc (.cells #[.int .i64 (m : Int)] 3)).cell? ((⟨w4.heap.size, 0, none⟩ : Addr).add j) = some u from fun j u hu => by
            have hj : j = 0 := by
              have := (List.getElem?_eq_some_iff.1 hu).1
              simp [intsI] at this
              omega
            subst hj
            rw [add_zero', n7]
            simpa [intsI] using hu)
          have PU := Lib.hid (fun (gp cp : Nat) (w8 : World) hrow hgr => T.out.push k4 g4 b5 hrow hgr (gp := gp) (cp := cp) (w3 := w8))
          clear k4 g4 b5 n7
          go_wp2_with (at_builtin; refine wpList_append_lies _ rfl _ _ 56 rfl B 3 i0 (.int .i64 0) 1 8 Try.underlying56 HI.out.1 HI.out.2.1 HI.out.2.2.1 HI.out.2.2.2 rfl (by decide) (.slice A n cap) n (intsI L) rfl OWN.out ⟨w4.heap.size, 0, none⟩ 1 1 (intsI [(m : Int)]) rfl rfl NEW.out (by intro u hu; simp [intsI] at hu; subst hu; rfl) (by omega) (by unfold maxLen; omega) (by omega) HW.out _ rfl ?_; intro g8 c8 w8 hrow hgr hat hlt8; (have T8 := Lib.hid (PU.out _ _ _ hrow hgr)); clear hrow hgr hat hlt8)
          clear PU NEW OWN HW T ST
          obtain ⟨n8, hn8⟩ : ∃ n8, n + 1 = n8 := ⟨_, rfl⟩
          rw [hn8] at T8
          simp only [hn8]
          clear hn8 hn4 hn d4
          obtain ⟨L8, hL8⟩ : ∃ L8, L ++ [(m : Int)] = L8 := ⟨_, rfl⟩
          rw [hL8] at T8
          clear hL8
          refine (k_len T8.out.kc c).mono ?_
          rintro e w9 ⟨rfl, rfl⟩
          rw [M.only_at, ← T8.out.nn]
          have hn9 := T8.out.len
          have bq := M.pg_le c
          rw [HQ.out] at bq
          obtain ⟨x9, hx9⟩ : ∃ x9 : Int, (n8 : Int) * q = x9 := ⟨_, rfl⟩
          have bx9 : 0 ≤ x9 ∧ x9 ≤ 256 := ⟨by rw [← hx9]; exact Int.mul_nonneg (by omega) bq.1, by rw [← hx9]; have := Int.mul_le_mul (show (n8 : Int) ≤ 4 by omega) bq.2 bq.1 (by omega); omega⟩
          have es : M.sum (M.only c L8) = x9 := (M.only_sum C0.out.1 C0.out.2).trans (by rw [← T8.out.nn, HQ.out]; exact hx9)
          have ES := Lib.hid es
          have ws9 : wrap64 ((n8 : Int) * q) = x9 := by rw [hx9]; unfold wrap64; omega
          clear es bq bx9 hx9
          go_wp2_with fail
          refine (k_pages T8.out.kc).mono ?_
          rintro e w9 ⟨rfl, rfl⟩
          rw [ES.out]
          go_wp2_with fail
          refine (cpages_at c q rfl HQ.out _).mono ?_
          rintro e w9 ⟨rfl, rfl⟩
          go_wp2_with fail
          refine (k_pages T8.out.kd).mono ?_
          rintro e w9 ⟨rfl, rfl⟩
          rw [M.sum_empty]
          go_wp2_with fail
          go_roundw
          case rel => exact ⟨m + 1, _, _, _, _, by omega, by go_num, rfl, T8.out⟩
          case measure => simp [intOf]; omega
        · have st := M.only_full (c := c) (x := (m : Int)) (L := L) (by rw [← T.out.nn]; exact hn)
          have ST := Lib.hid st
          have d4 : decide ((n : Int) < 4) = false := by simp; omega
          clear st
          go_wp2_with fail
          refine (k_push T.out.kc c m).mono ?_
          rintro e w8 ⟨rfl, k4, g4⟩
          rw [ST.out.1]
          rw [ST.out.2] at k4
          have T8 := Lib.hid (T.out.same k4 g4)
          clear k4 g4 T ST
          go_wp2_with fail
          obtain ⟨n8, hn8⟩ : ∃ n8, n = n8 := ⟨_, rfl⟩
          subst hn8
          obtain ⟨L8, hL8⟩ : ∃ L8, L = L8 := ⟨_, rfl⟩
          subst hL8
          clear hn4 hn d4
          refine (k_len T8.out.kc c).mono ?_
          rintro e w9 ⟨rfl, rfl⟩
          rw [M.only_at, ← T8.out.nn]
          have hn9 := T8.out.len
          have bq := M.pg_le c
          rw [HQ.out] at bq
          obtain ⟨x9, hx9⟩ : ∃ x9 : Int, (n : Int) * q = x9 := ⟨_, rfl⟩
          have bx9 : 0 ≤ x9 ∧ x9 ≤ 256 := ⟨by rw [← hx9]; exact Int.mul_nonneg (by omega) bq.1, by rw [← hx9]; have := Int.mul_le_mul (show (n : Int) ≤ 4 by omega) bq.2 bq.1 (by omega); omega⟩
          have es : M.sum (M.only c L) = x9 := (M.only_sum C0.out.1 C0.out.2).trans (by rw [← T8.out.nn, HQ.out]; exact hx9)
          have ES := Lib.hid es
          have ws9 : wrap64 ((n : Int) * q) = x9 := by rw [hx9]; unfold wrap64; omega
          clear es bq bx9 hx9
          go_wp2_with fail
          refine (k_pages T8.out.kc).mono ?_
          rintro e w9 ⟨rfl, rfl⟩
          rw [ES.out]
          go_wp2_with fail
          refine (cpages_at c q rfl HQ.out _).mono ?_
          rintro e w9 ⟨rfl, rfl⟩
          go_wp2_with fail
          refine (k_pages T8.out.kd).mono ?_
          rintro e w9 ⟨rfl, rfl⟩
          rw [M.sum_empty]
          go_wp2_with fail
          go_roundw
          case rel => exact ⟨m + 1, _, _, _, _, by omega, by go_num, rfl, T8.out⟩
          case measure => simp [intOf]; omega
      | false =>
        rcases List.eq_nil_or_concat L with hL | ⟨L8, x, hL⟩
        · subst hL
          have hn0 : n = 0 := T.out.nn
          subst hn0
          have PN := Lib.hid (M.only_none (c := c))
          go_wp2_with fail
          refine (k_pop T.out.kc c).mono ?_
          rintro e w8 ⟨rfl, k4, g4⟩
          rw [PN.out.1, PN.out.2.1]
          rw [PN.out.2.2] at k4
          have T8 := Lib.hid (T.out.same k4 g4)
          clear k4 g4 T PN
          go_wp2_with fail
          refine (k_len T8.out.kc c).mono ?_
          rintro e w9 ⟨rfl, rfl⟩
          rw [M.only_at]
          go_wp2_with fail
          refine (k_pages T8.out.kc).mono ?_
          rintro e w9 ⟨rfl, rfl⟩
          rw [M.only_nil, M.sum_empty]
          go_wp2_with fail
          refine (cpages_at c q rfl HQ.out _).mono ?_
          rintro e w9 ⟨rfl, rfl⟩
          go_wp2_with fail
          refine (k_pages T8.out.kd).mono ?_
          rintro e w9 ⟨rfl, rfl⟩
          rw [M.sum_empty]
          go_wp2_with fail
          go_roundw
          case rel => exact ⟨m + 1, _, _, _, _, by omega, by go_num, rfl, T8.out⟩
          case measure => simp [intOf]; omega
        · rw [List.concat_eq_append] at hL
          subst hL
          obtain ⟨n8, rfl⟩ : ∃ n8, n = n8 + 1 := ⟨L8.length, by have := T.out.nn; simpa using this⟩
          have PN := Lib.hid (M.only_pop (c := c) (x := x) (L := L8))
          obtain ⟨gp, hA, hcx⟩ := T.out.at n8 (by omega)
          have hn8 : n8 = L8.length := by have := T.out.nn; simp at this; exact this
          have hxx : (L8 ++ [x])[n8]'(by rw [← T.out.nn]; omega) = x := by subst hn8; simp
          rw [hxx] at hcx
          subst hA
          have HC := Lib.hid hcx
          have HG := Lib.hid (show gp ≠ g from fun e => by
            have h1 := (T.out.row.lt gp rfl).1
            have h2 := T.out.low.1
            omega)
          clear hcx hxx hn8
          go_wp2_with fail
          refine (k_pop T.out.kc c).mono ?_
          rintro e w8 ⟨rfl, k4, g4⟩
          rw [PN.out.1, PN.out.2.1]
          rw [PN.out.2.2] at k4
          have T8 := Lib.hid (T.out.drop k4 g4)
          have hcx : w8.cell? ⟨gp, n8, none⟩ = some (.int .i64 x) := (World.cell?_of_block (w := wr) (a := ⟨gp, n8, none⟩) (g4.block gp (lt_of_cell HC.out) (fun e => HG.out (by injection e)))).trans HC.out
          have hcap : n8 ≤ cap := by have := T.out.room; omega
          clear k4 g4 T PN HC HG
          go_wp2_with fail
          clear hcx hn4 hcap
          refine (k_len T8.out.kc c).mono ?_
          rintro e w9 ⟨rfl, rfl⟩
          rw [M.only_at, ← T8.out.nn]
          have hn9 := T8.out.len
          have bq := M.pg_le c
          rw [HQ.out] at bq
          obtain ⟨x9, hx9⟩ : ∃ x9 : Int, (n8 : Int) * q = x9 := ⟨_, rfl⟩
          have bx9 : 0 ≤ x9 ∧ x9 ≤ 256 := ⟨by rw [← hx9]; exact Int.mul_nonneg (by omega) bq.1, by rw [← hx9]; have := Int.mul_le_mul (show (n8 : Int) ≤ 4 by omega) bq.2 bq.1 (by omega); omega⟩
          have es : M.sum (M.only c L8) = x9 := (M.only_sum C0.out.1 C0.out.2).trans (by rw [← T8.out.nn, HQ.out]; exact hx9)
          have ES := Lib.hid es
          have ws9 : wrap64 ((n8 : Int) * q) = x9 := by rw [hx9]; unfold wrap64; omega
          clear es bq bx9 hx9
          go_wp2_with fail
          refine (k_pages T8.out.kc).mono ?_
          rintro e w9 ⟨rfl, rfl⟩
          rw [ES.out]
          go_wp2_with fail
          refine (cpages_at c q rfl HQ.out _).mono ?_
          rintro e w9 ⟨rfl, rfl⟩
          go_wp2_with fail
          refine (k_pages T8.out.kd).mono ?_
          rintro e w9 ⟨rfl, rfl⟩
          rw [M.sum_empty]
          go_wp2_with fail
          go_roundw
          case rel => exact ⟨m + 1, _, _, _, _, by omega, by go_num, rfl, T8.out⟩
          case measure => simp [intOf]; omega
    · obtain ⟨hx0, hal⟩ := And.intro T.out.len (M.only_all (c := c) (L := L) C0.out.1 C0.out.2)
      go_wp2_with fail
      refine (k_all T.out.kc).mono ?_
      rintro e w5 ⟨ga, z, rfl, hz, hz28, hr, hga, hb5⟩
      rw [hal] at hz hr
      have hzn : z = n := by rw [hz, List.length_map]; exact T.out.nn.symm
      subst hzn
      have T5 := Lib.hid (T.out.below hb5)
      have R5 := Lib.hid hr
      clear hr hz hb5 hal T hga
      go_wp2_with fail
      go_loopw [15] (fun i wr => ∃ j : Nat, j ≤ z ∧ i = .int .i64 (j : Int) ∧ Below w5.heap.size w5 wr) (fun i _ => z - (intOf i).toNat)
      case atStart => exact ⟨0, by omega, rfl, Below.refl _ _⟩
      case round =>
        obtain ⟨j, hj, rfl, hwd⟩ := hrel
        by_cases hlj : j < z
        · have hjl : j < L.length := by rw [← T5.out.nn]; exact hlj
          obtain ⟨bl, o, e, hcc⟩ := R5.out (by rw [List.length_map]; omega)
          injection e with e
          injection e with e1 e2
          subst e1 e2
          obtain ⟨gp, hA, hcx⟩ := T5.out.at j hlj
          have c0 := (hcc j (by rw [List.length_map]; exact hjl)).1
          simp only [Nat.zero_add, List.getElem_map] at c0
          obtain ⟨x, hx⟩ : ∃ x, x = L[j] := ⟨_, rfl⟩
          rw [← hx] at c0 hcx
          have c0' : wr.cell? ⟨ga, j * 2, none⟩ = some (.int .i64 x) := (hwd.cell (lt_of_cell c0)).trans c0
          have hcx' : wr.cell? ⟨gp, j, none⟩ = some (.int .i64 x) := (hwd.cell (lt_of_cell hcx)).trans hcx
          have HD := Lib.hid hwd
          subst hA
          clear hcc hx hjl c0 hcx hwd
          go_wp2_with fail
          go_quiet (fail)
          go_wp2_with fail
          go_roundw
          case rel => exact ⟨j + 1, by omega, by go_num, below_drewN' HD.out _⟩
          case measure => simp [intOf]; omega
        · have hzj : j = z := by omega
          subst hzj
          have HD := Lib.hid hwd
          clear hwd
          go_wp2_with fail
          go_ret
          exact ⟨rfl, below_call T5.out.kc.bel HD.out⟩

/-! The row's step. -/
set_option maxRecDepth 100000 in
theorem lifted (os : Os) (started : os.Started) (H : Type) (enc : TypeId × Value → H) :
    ReturnsInHanded {} Try.checked os 7 .any (Rows.cacheTurnsSpec.pre6 enc Try.prog Try.f7 Rows.cacheTurnsRow.domain false) (Rows.cacheTurnsSpec.post enc Try.prog Try.f7 false true false false) := by
  refine returnsInHanded_of_change (C := Try.checked) own started (by kernel_rfl) Try.func7
    (ChangeSpec.witness6 (enc := enc) (C := Try.checked) false ⟨#[], #[.slice none 0 0, .int .u8 0], []⟩ 8 (by kernel_rfl) (by kernel_rfl) (by kernel_rfl) (by kernel_rfl)) ?_
  intro W base args ds gs before hval0 hW hcnd _
  have hval : ∀ (j : Nat) t v, Try.f7.params[j]? = some t → args[j]? = some v → Value.okWide Try.prog W .any base t v := hval0
  have hW' := hW
  obtain ⟨p, q, hA0, hV, rfl, hfz, hnd⟩ := hW
  have hA : DataW.TrodAll enc Try.prog W 0 (fun _ => true) true Try.f7.params.toList args.toList ds p := hA0
  rw [Try.params7] at hA hval
  obtain ⟨v0, vs0, d0, ds0, p0, q0, hargs, rfl, rfl, h0, r0⟩ := trodAll_cons hA
  obtain ⟨v1, vs1, d1, ds1, p1, q1, rfl, rfl, rfl, h1, r1⟩ := trodAll_cons r0
  obtain ⟨rfl, rfl, rfl⟩ := trodAll_nil r1
  obtain rfl : args = #[v0, v1] := by cases args; simp_all
  obtain ⟨rfl, rfl⟩ := trodVars_none hV
  obtain ⟨a0, len0, cap0, rfl⟩ := okWide_slice Try.underlying55 (hval 0 55 v0 rfl rfl)
  have k0 := h0
  have lt0 : ∀ x ∈ p0, x.block < W.heap.size := by obtain ⟨m, hm⟩ := k0; exact DataW.trod_lt m _ _ _ hm
  have w0 : IsBools W a0 len0 := by
    obtain ⟨fuel, hf⟩ := h0
    obtain ⟨A, l, c, hcs, hw⟩ := bools_open hf
    simp [Value.cells] at hcs
    obtain ⟨rfl, rfl, rfl⟩ := hcs
    exact hw
  obtain ⟨a1, rfl, rfl, rfl, w1⟩ := open_int Try.underlying5 (hval 1 5 v1 rfl rfl) h1
  clear hA0 hval0
  refine (walk a0 len0 cap0 a1 W w0 w1).mono fun e W' ⟨he, bel⟩ => ?_
  subst he
  exact ⟨_, rfl, _, _, _, [], _, [], hW', trodAll_mk1 (shut_bool Try.underlying4 _), (trodAll_cons_mk (Below.trod laidOut (by kernel_rfl) (of_decide_eq_true (by kernel_rfl)) k0 bel lt0) (trodAll_cons_mk (shut_int Try.underlying5 w1) trodAll_mk0)), rfl, bel.frame _, fun h => by cases h⟩

theorem over : Rows.cacheTurnsRow.holds Try.pinned (OpenSpec.ofChange Rows.cacheTurnsSpec) :=
  OpenClaim.holds_of_wide 7 Try.f7 rfl rfl rfl rfl rfl rfl rfl ⟨rfl, rfl, rfl, rfl, rfl⟩ rfl rfl rfl rfl rfl (by kernel_rfl) Try.func7 (by kernel_rfl)
    (of_decide_eq_true (by kernel_rfl)) (by unfold Func.isWrapper; first | (rw [if_pos (by decide +kernel)]; kernel_rfl) | (rw [if_neg (by decide +kernel)]; exact ⟨rfl, rfl⟩))
    (fun os started H enc _ => lifted os started H enc)

/-- The statement. -/
theorem proved : Rows.CacheTurnsSaid := over
#print axioms proved
end Go.Proofs.Yteiiiapjloincaa.cacheTurns
