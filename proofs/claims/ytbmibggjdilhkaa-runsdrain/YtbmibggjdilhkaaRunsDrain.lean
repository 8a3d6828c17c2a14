/-
  RunsDrain: taken one by one, pages come from the shortest runs first, each but once, till there is none left; for every input the law returns true, and the arguments read behind the call as they read before. No condition.
-/
import Derived.Test.YtbmibggjdilhkaaRows
import Derived.WalkKit
import Derived.ProofKit
import Derived.OpenShut
import Derived.ShutString
import Derived.ChangeOld
import Derived.Below
import Derived.Test.YtbmibggjdilhkaaLaw6
namespace Go.Proofs.Ytbmibggjdilhkaa.runsDrain
open Go.ChangeShapes Go.WideShapes Go.ChangeAt Go.RowKit
set_option linter.unusedVariables false

theorem own : ownKnob Try.prog.godebug = none := by kernel_rfl

def Got9 (w5 : World) (l : List M.R) (n : Nat) (v : Value) (wx : World) : Prop := ∃ A c', v = .slice A n c' ∧ Runs wx A l ∧ Below w5.heap.size w5 wx ∧ Fresh w5.heap.size A
/-- What is known behind j rounds. -/
structure Dr (w wr : World) (l : List M.R) (T : Int) (j t c ca ga : Nat) (A : Option Addr) (ps : List Int) (ll : List M.R) : Prop where
  jT : (j : Int) ≤ T
  jp : j = ps.length
  tl : t = ll.length
  t8 : t ≤ 8
  ints : IsInts wr w.heap.size ga ca ps
  runs : Runs wr A ll
  apart : 0 < ll.length → ∀ b, A = some b → b.block ≠ ga
  ok : M.Ok (-1) 1073741824 ll
  tot : M.total ll = T - j
  sub : ∀ x, M.Pg ll x → M.Pg l x
  gone : ∀ p ∈ ps, ¬ M.Pg ll p
  bel : Below w.heap.size w wr
def IsDr (w : World) (l : List M.R) (T : Int) (va vl i : Value) (wr : World) : Prop := ∃ (j t c ca ga : Nat) (A : Option Addr) (ps : List Int) (ll : List M.R), va = .slice (some ⟨ga, 0, none⟩) j ca ∧ vl = .slice A t c ∧ i = .int .i64 (j : Int) ∧ Dr w wr l T j t c ca ga A ps ll

/-! The walk. -/
set_option maxRecDepth 20000 in
set_option maxHeartbeats 8000000 in
theorem walk (a0 : Option Addr) (len0 cap0 : Nat) (w : World) (w0 : IsActs w a0 len0) :
    Calls Try.prog 10 #[.slice a0 len0 cap0] w fun e w' => e = .returned (.bool true) ∧ Below w.heap.size w w' := by
  obtain ⟨hl0, l, hl, hr⟩ := w0
  have HR := Lib.hid (And.intro hl hr)
  clear hl hr
  go_enter Try.func10, Try.ntmps10
  go_wp2_with fail
  refine (awake_any _).mono ?_
  rintro e w1 ⟨rfl, b1⟩
  have B1 := Lib.hid b1
  clear b1
  go_wp2_with fail
  refine (few_any _ a0 l len0 cap0 HR.out.1 (HR.out.2.below B1.out) hl0).mono ?_
  rintro e w2 ⟨rfl, b2⟩
  have B2 := Lib.hid (below_call B1.out b2)
  clear b2
  obtain ⟨fb, hfb⟩ : ∃ fb, fb = fewB l := ⟨_, rfl⟩
  rw [← hfb]
  cases fb with
  | false =>
    clear hfb
    go_wp2_with fail
    go_ret
    exact ⟨rfl, B2.out⟩
  | true =>
  have hfw := (fewB_iff l).1 hfb.symm
  have HF := Lib.hid hfw
  have hl60 : len0 ≤ 60 := by have := HR.out.1; omega
  clear hfb hfw
  by_cases h8 : 8 < len0
  · have d1 : decide ((8 : Int) < (len0 : Int)) = true := by simp; omega
    go_wp2_with fail
    go_ret
    exact ⟨rfl, B2.out⟩
  have d1 : decide ((8 : Int) < (len0 : Int)) = false := by simp; omega
  have tb1 := total_between HF.out.2 (by omega) l.length
  rw [List.take_length] at tb1
  go_wp2_with fail
  refine (total_any _ a0 l len0 cap0 HR.out.1 (HR.out.2.below B2.out) hl0 HF.out.2).mono ?_
  rintro e w3 ⟨rfl, b3⟩
  have B3 := Lib.hid (below_call B2.out b3)
  clear b3
  obtain ⟨T, hT⟩ : ∃ T, T = M.total l := ⟨_, rfl⟩
  rw [← hT] at tb1 ⊢
  have HT := Lib.hid hT
  clear hT
  by_cases h400 : 400 < T
  · have d2 : decide ((400 : Int) < T) = true := by simp; omega
    go_wp2_with fail
    go_ret
    exact ⟨rfl, B3.out⟩
  have d2 : decide ((400 : Int) < T) = false := by simp; omega
  go_wp2_with fail
  refine (total_any _ a0 l len0 cap0 HR.out.1 (HR.out.2.below B3.out) hl0 HF.out.2).mono ?_
  rintro e w4 ⟨rfl, b4⟩
  have B4 := Lib.hid (below_call B3.out b4)
  clear b4
  rw [← HT.out]
  have mk := make_ints w4
  have i5 := ints_made w4 w.heap.size B4.out.size
  have b5 := B4.out.alloc B4.out.size (.cells (madeCells #[.int .i64 0] 0) 3)
  go_upto_region 9 with fail
  obtain ⟨w5, hw5⟩ : ∃ w5, w5 = w4.alloc (.cells (madeCells #[.int .i64 0] 0) 3) := ⟨_, rfl⟩
  obtain ⟨ga, hga⟩ : ∃ ga, ga = w4.heap.size := ⟨_, rfl⟩
  rw [← hw5] at i5 b5 ⊢
  rw [← hga] at i5 ⊢
  have hgl : ga < w5.heap.size := by rw [hga, hw5]; simp
  have I5 := Lib.hid (And.intro i5 b5)
  have HGL := Lib.hid hgl
  have H8 := Lib.hid (show len0 ≤ 8 by omega)
  clear mk i5 b5 hw5 hga d1 d2 h8 hgl
  go_cut [7] (fun v wx => Got9 w5 l len0 v wx)
  case first =>
    obtain ⟨i, hi, hi0, hi1, hi2⟩ := info36
    have HI := Lib.hid (And.intro hi (And.intro hi0 (And.intro hi1 hi2)))
    clear hi hi0 hi1 hi2
    by_cases h0 : len0 = 0
    · have ap := fun (W : World) (ty : TypeId) (g : Nat) (B : Option Addr) => run_append0 W ty (some ⟨g, 0, none⟩) 0 0 (Nat.le_refl _) B cap0
      subst h0
      have el : l = [] := List.eq_nil_of_length_eq_zero HR.out.1.symm
      cases a0 with
      | none =>
        go_wp2_with fail
        go_meet
        exact ⟨_, _, rfl, by rw [el]; exact Runs.nil, (Below.refl _ _).alloc (Nat.le_refl _) _, fresh_at (Nat.le_refl _)⟩
      | some ad =>
        go_wp2_with fail
        go_meet
        exact ⟨_, _, rfl, by rw [el]; exact Runs.nil, (Below.refl _ _).alloc (Nat.le_refl _) _, fresh_at (Nat.le_refl _)⟩
    · have own0 : (w5.alloc (.cells #[] 36)).ownsRow w5.heap.size 36 2 (.slice (some ⟨w5.heap.size, 0, none⟩) 0 0) 0 [] := ⟨rfl, .inr ⟨_, 0, #[], rfl, Nat.le_refl _, Blk.new w5 [], Nat.le_refl _, by unfold maxLen; omega, rfl, rfl⟩⟩
      have hr5 := HR.out.2.below I5.out.2
      obtain ⟨bl, o, rfl, hc⟩ := hr5 (by have := HR.out.1; omega)
      have hcl := runs_cells hc
      have hnews : ∀ j u, (rc l)[j]? = some u → (w5.alloc (.cells #[] 36)).cell? ((⟨bl, o, none⟩ : Addr).add j) = some u := fun j u hu => by
        rw [Addr.add_lit]
        exact Lib.cell?_alloc_some _ (hcl j u hu)
      have hrl : (rc l).length = len0 * 2 := by rw [rc_length, HR.out.1]
      have OWN := Lib.hid own0
      have HNW := Lib.hid hnews
      have HRL := Lib.hid hrl
      clear own0 hnews hrl hc hcl hr5
      go_wp2_with (at_builtin; refine wpList_append_lies _ rfl _ _ 22 rfl w5.heap.size 36 i (.agg #[.int .i64 0, .int .i64 0]) 2 16 Try.underlying22 HI.out.1 HI.out.2.1 HI.out.2.2.1 HI.out.2.2.2 rfl (by decide) (.slice (some ⟨w5.heap.size, 0, none⟩) 0 0) 0 [] rfl OWN.out ⟨bl, o, none⟩ len0 cap0 (rc l) rfl HRL.out HNW.out (rc_one l) (by omega) (by unfold maxLen; omega) (by omega) (by simp) _ rfl ?_; intro g1 c1 w6 hrow hgr hat hlt)
      go_meet
      have hm := mine_of HR.out.1 (show w6.ownsRow w5.heap.size 36 2 (.slice (some ⟨g1, 0, none⟩) len0 c1) len0 (rc l) by simpa using hrow)
      exact ⟨_, _, rfl, hm.runs, only_below2 hgr, hm.fresh⟩
  case rest =>
    obtain ⟨A6, c6, rfl, r6, b6, f6⟩ := hcut
    have D0 := Lib.hid (show Dr w wc l T 0 len0 c6 0 ga A6 [] l from ⟨by omega, rfl, HR.out.1, H8.out, I5.out.1.below b6, r6, fun _ b e => by have := f6 b e; have := HGL.out; omega, HF.out.2, by rw [HT.out]; omega, fun x hx => hx, fun p hp => (by cases hp), below_call I5.out.2 b6⟩)
    clear r6 b6 f6 I5 HGL
    go_wp2_with fail
    go_loopw [6, 7, 8] (fun va vl i wr => IsDr w l T va vl i wr) (fun va vl i _ => T.toNat - (intOf i).toNat)
    case atStart => exact ⟨0, len0, c6, 0, ga, A6, [], l, rfl, rfl, rfl, D0.out⟩
    case round =>
      obtain ⟨j, t, c, ca, ga, A, ps, ll, rfl, rfl, rfl, dr⟩ := hrel
      have DR := Lib.hid dr
      have htl8 := dr.t8
      clear dr D0
      by_cases hlt : (j : Int) < T
      · have tk := drain_take DR.out.ok (by rw [DR.out.tot]; omega)
        have st := drain_step DR.out.ok tk
        obtain ⟨k, hk, ebest, ep⟩ := st.2.2.2.2.2.2.2
        obtain ⟨p, hp⟩ : ∃ p, p = takeP ll 1 := ⟨_, rfl⟩
        obtain ⟨lm, hlm⟩ : ∃ lm, lm = takeL ll 1 := ⟨_, rfl⟩
        have hlen := takeL_length (l := ll) (n := 1)
        obtain ⟨bl, o, rfl, hc⟩ := DR.out.runs (by omega)
        have c0 := (hc k hk).1
        rw [ep, ← hp] at c0
        rw [← hp, ← hlm] at st
        rw [← hlm] at hlen
        have hkt : k < t := by rw [DR.out.tl]; exact hk
        have bst := fun W h => best_any W (some ⟨bl, o, none⟩) ll t c DR.out.tl h (by omega) 1
        rw [ebest] at bst
        have tke := fun W h => take_any W (some ⟨bl, o, none⟩) ll t c DR.out.tl h (by omega) DR.out.ok 1
        rw [tk, ← hp, ← hlm] at tke
        have ST := Lib.hid (And.intro st hlen)
        have C0 := Lib.hid c0
        have BST := Lib.hid bst
        have TKE := Lib.hid tke
        have hp0 := st.2.2.2.2.2.1
        have hp1 := st.2.2.2.2.2.2.1
        clear tk st hk ebest ep hp hlm hc c0 bst tke hlen
        go_wp2_with fail
        refine (BST.out _ DR.out.runs).mono ?_
        rintro e w6 ⟨rfl, b6⟩
        have B6 := Lib.hid b6
        clear b6
        go_wp2_with fail
        refine (TKE.out _ (DR.out.runs.below B6.out)).mono ?_
        rintro e w7 ⟨A7, t7, c7, rfl, ht7, r7, b7, f7⟩
        have B7 := Lib.hid (below_call B6.out b7)
        have R7 := Lib.hid (And.intro ht7 (And.intro r7 (f7.mono B6.out.size)))
        have d0 := (B7.out.cell (lt_of_cell C0.out)).trans C0.out
        clear b7 ht7 r7 f7
        have hhas := has_any w7 a0 l len0 cap0 HR.out.1 (HR.out.2.below (below_call DR.out.bel B7.out)) hl0 HF.out.2 p 1 (by omega) (by omega) (by omega)
        rw [(M.has_pg HF.out.2 p 1 (by omega)).2 ⟨p, by omega, by omega, DR.out.sub _ ST.out.1.2.2.1⟩] at hhas
        have HH := Lib.hid hhas
        clear hhas
        go_wp2_with fail
        refine HH.out.mono ?_
        rintro e w8 ⟨rfl, b8⟩
        have B8 := Lib.hid (below_call B7.out b8)
        have R8 := Lib.hid (R7.out.2.1.below b8)
        clear b8 d0
        have I8 := Lib.hid (DR.out.ints.below B8.out)
        go_wp2_with fail
        go_loop [13] (fun i => ∃ k2 : Nat, k2 ≤ j ∧ i = .int .i64 (k2 : Int)) (fun i => j - (intOf i).toNat)
        case atStart => exact ⟨0, by omega, rfl⟩
        case round =>
          obtain ⟨k2, hk2, rfl⟩ := hrel
          by_cases hl2 : k2 < j
          · have hkp : k2 < ps.length := by have := DR.out.jp; omega
            have q0 := I8.out.cell k2 hkp
            have hne : ps[k2] ≠ p := fun e => DR.out.gone _ (List.getElem_mem hkp) (by rw [e]; exact ST.out.1.2.2.1)
            obtain ⟨y, hy⟩ : ∃ y, y = ps[k2] := ⟨_, rfl⟩
            rw [← hy] at q0 hne
            clear hy hkp
            have hne2 : ¬ y = p := hne
            go_wp2_with fail
            go_round
            case rel => exact ⟨k2 + 1, by omega, by go_num⟩
            case measure => simp [intOf]; omega
          · obtain ⟨i3, hi, hi0, hi1, hi2⟩ := info3
            have HI := Lib.hid (And.intro hi (And.intro hi0 (And.intro hi1 hi2)))
            have hsz := (below_call DR.out.bel B8.out).size
            clear hi hi0 hi1 hi2
            go_wp2_with (at_builtin; refine wpList_append_lies _ rfl _ _ 39 rfl w.heap.size 3 i3 (.int .i64 0) 1 8 Try.underlying39 HI.out.1 HI.out.2.1 HI.out.2.2.1 HI.out.2.2.2 rfl (by decide) (.slice (some ⟨ga, 0, none⟩) j ca) j (ints ps) rfl (ints_owns I8.out DR.out.jp _) ⟨w8.heap.size, 0, none⟩ 1 1 (ints [p]) rfl rfl (num_cells w8 p) (ints_one _) (by omega) (by unfold maxLen; omega) (by omega) (by simp; omega) _ rfl ?_; intro g1 c1 w9 hrow hgr hat hlt9; (have HS := Lib.hid (And.intro (ints_snoc DR.out.jp I8.out (below_call DR.out.bel B8.out) hsz hrow hgr) hat)); clear hrow hgr hat hlt9)
            go_roundw
            case rel =>
              have hgl : ga < wr.heap.size := (World.ownsRow.lt DR.out.ints ga rfl).2
              have hR9 : Runs w9 A7 lm := Runs.keep2 (B := 0) R8.out (fun _ b e => by have := R7.out.2.2 b e; omega) HS.out.1.2.2
              refine ⟨j + 1, t7, c7, c1, g1, A7, ps ++ [p], lm, rfl, rfl, by go_num, ⟨by omega, by rw [List.length_append, ← DR.out.jp]; rfl, R7.out.1, by rw [R7.out.1]; have := ST.out.2; have := DR.out.tl; omega, HS.out.1.1, hR9, fun hpos b e => ?_, ST.out.1.1, by rw [ST.out.1.2.1, DR.out.tot]; omega, fun x hx => DR.out.sub x (ST.out.1.2.2.2.2.1 x hx), fun x hx => ?_, HS.out.1.2.1⟩⟩
              · have hf := R7.out.2.2 b e
                obtain ⟨bl9, o9, e9, hc9⟩ := R8.out hpos
                rw [e] at e9
                injection e9 with e9
                have hlt := lt_of_cell (hc9 0 hpos).1
                have hbe : b.block = bl9 := by rw [e9]
                have hlt : bl9 < w8.heap.size := hlt
                rcases HS.out.2 with h | h
                · simp [Value.ownBlock] at h
                  omega
                · simp at h
                  omega
              · rcases List.mem_append.1 hx with hx | hx
                · exact fun h => DR.out.gone x hx (ST.out.1.2.2.2.2.1 x h)
                · rw [List.mem_singleton] at hx
                  rw [hx]
                  exact ST.out.1.2.2.2.1
            case measure => simp [intOf]; omega
      · have hjT := DR.out.jT
        have el := drain_end DR.out.ok (by rw [DR.out.tot]; omega)
        have ht0 : t = 0 := by rw [DR.out.tl, el]; rfl
        subst ht0
        have tke := take_any wr A ([] : List M.R) 0 c rfl Runs.nil (by omega) trivial 1
        rw [show takeB ([] : List M.R) 1 = false by rfl] at tke
        go_wp2_with fail
        refine tke.mono ?_
        rintro e w7 ⟨A7, t7, c7, rfl, ht7, r7, b7, f7⟩
        clear ht7 r7 f7 tke
        have B7 := Lib.hid (below_call DR.out.bel b7)
        clear b7
        go_wp2_with fail
        go_ret
        exact ⟨rfl, B7.out⟩

/-! The row's step. -/
set_option maxRecDepth 100000 in
theorem lifted (os : Os) (started : os.Started) (H : Type) (enc : TypeId × Value → H) :
    ReturnsInHanded {} Try.checked os 10 .any (Rows.runsDrainSpec.pre6 enc Try.prog Try.f10 Rows.runsDrainRow.domain false) (Rows.runsDrainSpec.post enc Try.prog Try.f10 false true false false) := by
  refine returnsInHanded_of_change (C := Try.checked) own started (by kernel_rfl) Try.func10
    (ChangeSpec.witness6 (enc := enc) (C := Try.checked) false ⟨#[], #[.slice none 0 0], []⟩ 8 (by kernel_rfl) (by kernel_rfl) (by kernel_rfl) (by kernel_rfl)) ?_
  intro W base args ds gs before hval0 hW hcnd _
  have hval : ∀ (j : Nat) t v, Try.f10.params[j]? = some t → args[j]? = some v → Value.okWide Try.prog W .any base t v := hval0
  have hW' := hW
  obtain ⟨p, q, hA0, hV, rfl, hfz, hnd⟩ := hW
  have hA : DataW.TrodAll enc Try.prog W 0 (fun _ => true) true Try.f10.params.toList args.toList ds p := hA0
  rw [Try.params10] at hA hval
  obtain ⟨v0, vs0, d0, ds0, p0, q0, hargs, rfl, rfl, h0, r0⟩ := trodAll_cons hA
  obtain ⟨rfl, rfl, rfl⟩ := trodAll_nil r0
  obtain rfl : args = #[v0] := by cases args; simp_all
  obtain ⟨rfl, rfl⟩ := trodVars_none hV
  obtain ⟨a0, len0, cap0, rfl⟩ := okWide_slice Try.underlying22 (hval 0 22 v0 rfl rfl)
  have k0 := h0
  have lt0 : ∀ x ∈ p0, x.block < W.heap.size := by obtain ⟨m, hm⟩ := k0; exact DataW.trod_lt m _ _ _ hm
  have w0 : IsActs W a0 len0 := by
    obtain ⟨fuel, hf⟩ := h0
    obtain ⟨A, l, c, hcs, hw⟩ := acts_open hf
    simp [Value.cells] at hcs
    obtain ⟨rfl, rfl, rfl⟩ := hcs
    exact hw
  clear hA0 hval0
  refine (walk a0 len0 cap0 W w0).mono fun e W' ⟨he, bel⟩ => ?_
  subst he
  exact ⟨_, rfl, _, _, _, [], _, [], hW', trodAll_mk1 (shut_bool Try.underlying4 _), (trodAll_cons_mk (Below.trod laidOut (by kernel_rfl) (of_decide_eq_true (by kernel_rfl)) k0 bel lt0) trodAll_mk0), rfl, bel.frame _, fun h => by cases h⟩

theorem over : Rows.runsDrainRow.holds Try.pinned (OpenSpec.ofChange Rows.runsDrainSpec) :=
  OpenClaim.holds_of_wide 10 Try.f10 rfl rfl rfl rfl rfl rfl rfl ⟨rfl, rfl, rfl, rfl, rfl⟩ rfl rfl rfl rfl rfl (by kernel_rfl) Try.func10 (by kernel_rfl)
    (of_decide_eq_true (by kernel_rfl)) (by unfold Func.isWrapper; first | (rw [if_pos (by decide +kernel)]; kernel_rfl) | (rw [if_neg (by decide +kernel)]; exact ⟨rfl, rfl⟩))
    (fun os started H enc _ => lifted os started H enc)

/-- The statement. -/
theorem proved : Rows.RunsDrainSaid := over
#print axioms proved
end Go.Proofs.Ytbmibggjdilhkaa.runsDrain
