/-
  CellsPlays is true whatever the input: whatever numbers are put, added, filled and got, each answer, and what ticks, are the document's, step by step; no conditions.
-/
import Derived.Test.YtpcahaihlcaabaaRows
import Derived.WalkKit
import Derived.ProofKit
import Derived.OpenShut
import Derived.ShutString
import Derived.ChangeOld
import Derived.Below
import Derived.Test.YtpcahaihlcaabaaAct4
import Derived.Deep.DeepCutAuto
namespace Go.Proofs.Ytpcahaihlcaabaa.cellsPlays
open Go.ChangeShapes Go.WideShapes Go.ChangeAt Go.RowKit
set_option linter.unusedVariables false

theorem own : ownKnob Try.prog.godebug = none := by kernel_rfl

theorem ticks_quiet {w : World} {s P T : Nat} {f : Nat → UInt8} {O : Nat → Prop} (h : Sp w s P T f O) (n : Nat) :
    Calls Try.prog 21 #[.pointer (some ⟨s, 0, none⟩)] (w.drewN n) fun e w'' => e = .returned (.int .i64 (T : Int)) ∧ ∃ m, w'' = w.drewN m := (sticks_any (h.drewN n)).mono fun e w' ⟨he, hw⟩ => ⟨he, n, hw.symm⟩
/-- Behind some acts: the program's space and the document's, side by side. -/
def Rel (w0 wr : World) (s bw P k : Nat) : Prop := ∃ T O l A c, At w0 wr s P T (M.byteAt l) O ∧ RefP wr bw P T O l A c ∧ T ≤ k * 4194304 ∧ l.length ≤ k
theorem act_world (w : World) (v0 v1 v2 v3 v4 : Value) : ∀ j, (w.alloc (.cells #[v0, v1, v2, v3, v4] 33)).cell? ⟨w.heap.size, j, none⟩ = (#[v0, v1, v2, v3, v4] : Array Value)[j]? := fun j => World.cell?_alloc_mark _ _ _ _ _
theorem t30 {T k : Nat} (h : T ≤ k * 4194304) (hk : k ≤ 30) : T ≤ 125829120 := by omega
theorem aT_le {P a : Nat} {y : Int} (hP : P ≤ 1048576) : aT P a y ≤ 2097156 := by unfold aT; have := gT_le (a := a) (y := y) hP; omega

/-! The walk. -/
set_option maxRecDepth 20000 in
set_option maxHeartbeats 40000000 in
theorem walk (a0 : Int) (a1 : Option Addr) (len1 cap1 : Nat) (w : World) (w0 : (Lit.int .i64 a0).wf = true) (w1 : IsActs w a1 len1) :
    Calls Try.prog 3 #[.int .i64 a0, .slice a1 len1 cap1] w fun e w' => e = .returned (.bool true) ∧ Below w.heap.size w w' := by
  have hpg := i64_range w0
  obtain ⟨hlen, ls, hls, hacts⟩ := w1
  have HA := Lib.hid (show len1 = ls.length ∧ Acts w a1 ls from ⟨hls, hacts⟩)
  clear hls hacts
  obtain ⟨P, hP⟩ : ∃ P : Nat, (P : Int) = min (max a0 1) 1048576 := ⟨(min (max a0 1) 1048576).toNat, by omega⟩
  have hP1 : 1 ≤ P := by omega
  have hP2 : P ≤ 1048576 := by omega
  have HP := Lib.hid hP
  clear hP hpg w0
  go_enter Try.func3, Try.ntmps3
  go_wp2_with fail
  refine (awake_any _).mono ?_
  rintro e w1 ⟨rfl, b1⟩
  have B1 := Lib.hid b1
  clear b1
  go_wp2_with fail
  refine (few_any w1 a1 ls len1 cap1 HA.out.1 (HA.out.2.below B1.out) hlen).mono ?_
  rintro e w' ⟨rfl, rfl⟩
  by_cases hf : fewB ls = true
  · have hl30 := fewB_len hf
    have hz30 : len1 ≤ 30 := by have := HA.out.1; omega
    go_wp2_with fail
    refine (at_new (w0 := w) B1.out a0 P HP.out).mono ?_
    rintro e w2 ⟨s, O2, rfl, A2⟩
    have H2 := Lib.hid A2
    clear A2
    go_wp2_with fail
    refine (rnew_any a0 P HP.out _).mono ?_
    rintro e w3 ⟨rfl, b3⟩
    have H3 := Lib.hid (H2.out.same b3)
    have hO3 : ¬ O2 w3.heap.size := fun e => by have := H2.out.sp.lt e; have := b3.size; omega
    go_wp2_with fail
    have st : Rel w (w3.alloc (.cells #[.int .i64 (P : Int), .slice none 0 0, .int .i64 0] 29)) s w3.heap.size P 0 := by
      have cm := fun j => World.cell?_alloc_mark w3 #[.int .i64 (P : Int), .slice none 0 0, .int .i64 0] 29 (0, 0) j
      have fm := fun j => World.frozen?_alloc_mark w3 #[.int .i64 (P : Int), .slice none 0 0, .int .i64 0] 29 0 0 j
      refine ⟨0, O2, [], none, 0, by rw [M.byteAt_nil]; exact H3.out.alloc _, ⟨(cm 0).trans rfl, (cm 1).trans rfl, (cm 2).trans rfl, fun j => by rw [fm j]; simp, Lies.nil, fun _ => ⟨rfl, rfl⟩, fun h => absurd h (by simp), fun e he => (by cases he), hO3⟩, by omega, Nat.le_refl _⟩
    have hbw : w.heap.size ≤ w3.heap.size := H3.out.bel.size
    generalize hw4 : w3.alloc (.cells #[.int .i64 (P : Int), .slice none 0 0, .int .i64 0] 29) = w4 at *
    clear hw4
    generalize hbwe : w3.heap.size = bw at *
    have ST := Lib.hid st
    clear st b3 hO3 hbwe
    go_loopw [9] (fun i wr => ∃ k : Nat, k ≤ len1 ∧ i = .int .i64 (k : Int) ∧ Rel w wr s bw P k) (fun i _ => len1 - (intOf i).toNat)
    case atStart => exact ⟨0, by omega, rfl, ST.out⟩
    case round =>
      obtain ⟨k, hk, rfl, hrel⟩ := hrel
      by_cases hlt : k < len1
      · have hkl : k < ls.length := by have := HA.out.1; omega
        obtain ⟨bl, o, rfl, hc⟩ := HA.out.2 (by omega)
        obtain ⟨T, O, l, A, c, at0, rf0, hT, hll⟩ := hrel
        have hx := (hc k hkl).below at0.bel
        generalize hxe : ls[k] = x at hx
        have c0 := hx.c0
        have c1 := hx.c1
        have c2 := hx.c2
        have c3 := hx.c3
        have c4 := hx.c4
        have n0 := hx.d
        have HX := Lib.hid (show x.at' < 18446744073709551616 ∧ x.n < 18446744073709551616 from ⟨hx.at', hx.n⟩)
        obtain ⟨xd, xa, xy, xn, xt⟩ := x
        simp only at c0 c1 c2 c3 c4 n0
        have R0 := Lib.hid (show At w wr s P T (M.byteAt l) O ∧ RefP wr bw P T O l A c ∧ T ≤ k * 4194304 ∧ l.length ≤ k from ⟨at0, rf0, hT, hll⟩)
        have hbwl := rf0.lt
        clear hx hxe hc at0 rf0 hT hll hk
        -- the act, in a variable of its own
        have av := act_world wr (.int .u8 (xd : Int)) (.int .u64 (xa : Int)) (.int .i64 xy) (.int .u64 (xn : Int)) (.int .i64 xt)
        have at1 := R0.out.1.alloc (.cells #[.int .u8 (xd : Int), .int .u64 (xa : Int), .int .i64 xy, .int .u64 (xn : Int), .int .i64 xt] 33)
        have rf1 := R0.out.2.1.below ((Below.refl wr.heap.size wr).alloc (Nat.le_refl _) (.cells #[.int .u8 (xd : Int), .int .u64 (xa : Int), .int .i64 xy, .int .u64 (xn : Int), .int .i64 xt] 33))
        have hz1 : (wr.alloc (.cells #[.int .u8 (xd : Int), .int .u64 (xa : Int), .int .i64 xy, .int .u64 (xn : Int), .int .i64 xt] 33)).heap.size = wr.heap.size + 1 := by simp
        have hOlt : ∀ b, O b → b < wr.heap.size := fun b hb => R0.out.1.sp.lt hb
        go_upto_region 13 with fail
        generalize hw1 : wr.alloc (.cells #[.int .u8 (xd : Int), .int .u64 (xa : Int), .int .i64 xy, .int .u64 (xn : Int), .int .i64 xt] 33) = v1 at *
        clear hw1 c0 c1 c2 c3 c4
        generalize hba : wr.heap.size = ba at *
        clear hba
        have a0' : v1.cell? ⟨ba, 0, none⟩ = some (.int .u8 (xd : Int)) := av 0
        have a1' : v1.cell? ⟨ba, 1, none⟩ = some (.int .u64 (xa : Int)) := av 1
        have a2' : v1.cell? ⟨ba, 2, none⟩ = some (.int .i64 xy) := av 2
        have a3' : v1.cell? ⟨ba, 3, none⟩ = some (.int .u64 (xn : Int)) := av 3
        have a4' : v1.cell? ⟨ba, 4, none⟩ = some (.int .i64 xt) := av 4
        obtain ⟨ln, hln⟩ : ∃ ln, ln = l.length := ⟨_, rfl⟩
        have r0 := rf1.c0
        have r1 := rf1.c1
        have r2 := rf1.c2
        rw [← hln] at r1
        have hbal : ba < v1.heap.size := by omega
        have hT30 : T ≤ 125829120 := t30 R0.out.2.2.1 (by omega)
        have hl31 : ln ≤ 30 := by have := R0.out.2.2.2; omega
        have R1 := Lib.hid (show At w v1 s P T (M.byteAt l) O ∧ RefP v1 bw P T O l A c ∧ ln = l.length ∧ True ∧ (∀ b, O b → b < ba) ∧ T ≤ k * 4194304 ∧ l.length ≤ k from ⟨at1, rf1, hln, trivial, hOlt, R0.out.2.2.1, R0.out.2.2.2⟩)
        clear av at1 rf1 hz1 hOlt hln R0
        by_cases d0 : xd = 0
        · subst d0
          have htk : gT P xa xy ≤ 2097156 := Nat.le_trans (gT_le hP2) (by omega)
          have hdoc := docGet v1 P A ln c T hP2 l R1.out.2.2.1 R1.out.2.1.log R1.out.2.1.ok (by omega) (fun h => R1.out.2.1.emp (by have := R1.out.2.2.1; omega)) (by omega) xa xy HX.out.1
          have hpro := fun (v3 : World) (at3 : At w v3 s P T (M.byteAt l) O) => at_cget at3 xa xy HX.out.1 (by omega)
          generalize hge : gE P xa xy = er at *
          generalize hgt : gT P xa xy = tk at *
          generalize hgv : gV P (M.byteAt l) xa xy = vv at *
          have HD := Lib.hid hdoc
          have HPR := Lib.hid hpro
          clear hdoc hpro hge hgt hgv
          go_wp2_with fail
          refine HD.out.mono ?_
          rintro e v2 ⟨rfl, b2⟩
          obtain ⟨T', hT'⟩ : ∃ T', T' = T + tk := ⟨_, rfl⟩
          have tn := R1.out.2.1.turn0 (T' := T') b2 (fun b hb => by have := R1.out.2.2.2.2.1 b hb; omega) (Lies.below R1.out.2.1.log b2) (Or.inl ⟨rfl, rfl, rfl⟩) R1.out.2.1.ok
          rw [← R1.out.2.2.1] at tn
          have sl : l.length ≤ l.length + 1 := Nat.le_succ _
          rw [← hT']
          have r02 := (b2.cell (p := ⟨bw, 0, none⟩) (lt_of_cell r0)).trans r0
          have r12 := (b2.cell (p := ⟨bw, 1, none⟩) (lt_of_cell r1)).trans r1
          have r22 := (b2.cell (p := ⟨bw, 2, none⟩) (lt_of_cell r2)).trans r2
          have rf2 : ∀ j, v2.frozen? ⟨bw, j, none⟩ = false := (R1.out.2.1.below b2).fz
          have a12 := (b2.cell (p := ⟨ba, 1, none⟩) hbal).trans a1'
          have a22 := (b2.cell (p := ⟨ba, 2, none⟩) hbal).trans a2'
          have a32 := (b2.cell (p := ⟨ba, 3, none⟩) hbal).trans a3'
          have a42 := (b2.cell (p := ⟨ba, 4, none⟩) hbal).trans a4'
          have hv2 : v1.heap.size ≤ v2.heap.size := b2.size
          have hbav : ba < v2.heap.size := by omega
          have hbwv : bw < v2.heap.size := by omega
          have at2 := R1.out.1.same b2
          have at3 := at2.other tn.2 (fun b hb e => R1.out.2.1.no (e ▸ hb)) (at2.bel.trans (tn.2.below at2.bel.size (fun i e => by omega)))
          have R3 := Lib.hid (show _ ∧ _ ∧ _ ∧ T' = T + tk ∧ _ from ⟨at3, tn.1, tn.2, hT', sl⟩)
          clear at2 at3 tn sl b2 hT'
          go_wp2_with fail
          refine (HPR.out _ R3.out.1).mono ?_
          rintro e v4 ⟨rfl, at4, k4⟩
          have rf4 := R3.out.2.1.kept k4
          have at4' : At w v4 s P (T + tk) (M.byteAt l) (Wid O _ v4) := ⟨at4.sp.mono (fun _ h => Or.inl h) (fun b hb => hb.elim (fun h => at4.sp.lt h) (fun h => h.2)), at4.bel, R3.out.1.wid⟩
          rw [← R3.out.2.2.2.1] at at4'
          have t4 := rf4.c2
          have R5 := Lib.hid (show Rel w v4 s bw P (k + 1) from ⟨_, _, _, _, _, at4', rf4, by have := R3.out.2.2.2.1; have := R1.out.2.2.2.2.2.1; omega, by have := R3.out.2.2.2.2; have := R1.out.2.2.2.2.2.2; omega⟩)
          have S5 := Lib.hid at4'.sp
          clear at4 at4' rf4 k4 r0 r1 r2 r02 r12 r22 rf2 a12 a22 a32 a42 a0' a1' a2' a3' a4' HD HPR
          go_wp2_with fail
          go_quiet (first | (go_at_call 21; exact ticks_quiet S5.out _))
          go_wp2_with fail
          go_roundw
          case rel => exact ⟨k + 1, by omega, by go_num, by obtain ⟨T, O, l, A, c, h1, h2, h3, h4⟩ := R5.out; exact ⟨T, O, l, A, c, h1.drewN _, h2.below (below_drewN' (Below.refl _ _) _), h3, h4⟩⟩
          case measure => simp [intOf]; omega
        · have i0 : ¬ ((xd : Int) = 0) := by omega
          have i0' : ((xd : Int) == 0) = false := by simp; omega
          by_cases d1 : xd = 1
          · subst d1
            have htk : gT P xa xy ≤ 2097156 := Nat.le_trans (gT_le hP2) (by omega)
            have hdoc := docPut v1 P A ln c T hP2 l R1.out.2.2.1 R1.out.2.1.log R1.out.2.1.ok (by omega) (fun h => R1.out.2.1.emp (by have := R1.out.2.2.1; omega)) (by omega) xa xn xy HX.out.1 HX.out.2
            have hpro := fun (v3 : World) (at3 : At w v3 s P T (M.byteAt l) O) => at_cput at3 xa xn xy HX.out.1 HX.out.2 (by omega)
            generalize hge : gE P xa xy = er at *
            generalize hgt : gT P xa xy = tk at *
            generalize hgf : pF P (M.byteAt l) xa xy xn = ff at *
            have HD := Lib.hid hdoc
            have HPR := Lib.hid hpro
            clear hdoc hpro hge hgt hgf
            go_wp2_with fail
            refine HD.out.mono ?_
            rintro e v2 ⟨l', A', c', n', T', hT', rfl, hn', hlog', hfr, b2, hfb, sl, hok'⟩
            have tn := R1.out.2.1.turn0 (T' := T') b2 (fun b hb => by have := R1.out.2.2.2.2.1 b hb; omega) hlog' hfr hok'
            rw [← hn'] at tn
            have r02 := (b2.cell (p := ⟨bw, 0, none⟩) (lt_of_cell r0)).trans r0
            have r12 := (b2.cell (p := ⟨bw, 1, none⟩) (lt_of_cell r1)).trans r1
            have r22 := (b2.cell (p := ⟨bw, 2, none⟩) (lt_of_cell r2)).trans r2
            have rf2 : ∀ j, v2.frozen? ⟨bw, j, none⟩ = false := (R1.out.2.1.below b2).fz
            have a12 := (b2.cell (p := ⟨ba, 1, none⟩) hbal).trans a1'
            have a22 := (b2.cell (p := ⟨ba, 2, none⟩) hbal).trans a2'
            have a32 := (b2.cell (p := ⟨ba, 3, none⟩) hbal).trans a3'
            have a42 := (b2.cell (p := ⟨ba, 4, none⟩) hbal).trans a4'
            have hv2 : v1.heap.size ≤ v2.heap.size := b2.size
            have hbav : ba < v2.heap.size := by omega
            have hbwv : bw < v2.heap.size := by omega
            have at2 := R1.out.1.same b2
            have at3 := at2.other tn.2 (fun b hb e => R1.out.2.1.no (e ▸ hb)) (at2.bel.trans (tn.2.below at2.bel.size (fun i e => by omega)))
            have R3 := Lib.hid (show _ ∧ _ ∧ _ ∧ T' = T + tk ∧ _ from ⟨at3, tn.1, tn.2, hT', sl⟩)
            have HFB := Lib.hid hfb
            clear at2 at3 tn sl b2 hT' hlog' hfr hn' hok' hfb
            go_wp2_with fail
            refine (HPR.out _ R3.out.1).mono ?_
            rintro e v4 ⟨rfl, at4, k4⟩
            have rf4 := R3.out.2.1.kept k4
            have at4' := at4
            rw [← HFB.out] at at4'
            rw [← R3.out.2.2.2.1] at at4'
            have t4 := rf4.c2
            have R5 := Lib.hid (show Rel w v4 s bw P (k + 1) from ⟨_, _, _, _, _, at4', rf4, by have := R3.out.2.2.2.1; have := R1.out.2.2.2.2.2.1; omega, by have := R3.out.2.2.2.2; have := R1.out.2.2.2.2.2.2; omega⟩)
            have S5 := Lib.hid at4'.sp
            clear at4 at4' rf4 k4 r0 r1 r2 r02 r12 r22 rf2 a12 a22 a32 a42 a0' a1' a2' a3' a4' HD HPR
            go_wp2_with fail
            go_quiet (first | (go_at_call 21; exact ticks_quiet S5.out _))
            go_wp2_with fail
            go_roundw
            case rel => exact ⟨k + 1, by omega, by go_num, by obtain ⟨T, O, l, A, c, h1, h2, h3, h4⟩ := R5.out; exact ⟨T, O, l, A, c, h1.drewN _, h2.below (below_drewN' (Below.refl _ _) _), h3, h4⟩⟩
            case measure => simp [intOf]; omega
          · have i1 : ¬ ((xd : Int) = 1) := by omega
            have i1' : ((xd : Int) == 1) = false := by simp; omega
            by_cases d2 : xd = 2
            · subst d2
              have htk : aT P xa xy ≤ 2097156 := Nat.le_trans (aT_le hP2) (by omega)
              have hdoc := docAdd v1 P A ln c T hP2 l R1.out.2.2.1 R1.out.2.1.log R1.out.2.1.ok (by omega) (fun h => R1.out.2.1.emp (by have := R1.out.2.2.1; omega)) (by omega) xa xn xy HX.out.1 HX.out.2
              have hpro := fun (v3 : World) (at3 : At w v3 s P T (M.byteAt l) O) => at_cadd at3 xa xn xy HX.out.1 HX.out.2 (by omega)
              generalize hge : gE P xa xy = er at *
              generalize hgt : aT P xa xy = tk at *
              generalize hgv : gV P (M.byteAt l) xa xy = vv at *
              generalize hgf : aF P (M.byteAt l) xa xy xn = ff at *
              have HD := Lib.hid hdoc
              have HPR := Lib.hid hpro
              clear hdoc hpro hge hgt hgv hgf
              go_wp2_with fail
              refine HD.out.mono ?_
              rintro e v2 ⟨l', A', c', n', T', hT', rfl, hn', hlog', hfr, b2, hfb, sl, hok'⟩
              have tn := R1.out.2.1.turn0 (T' := T') b2 (fun b hb => by have := R1.out.2.2.2.2.1 b hb; omega) hlog' hfr hok'
              rw [← hn'] at tn
              have r02 := (b2.cell (p := ⟨bw, 0, none⟩) (lt_of_cell r0)).trans r0
              have r12 := (b2.cell (p := ⟨bw, 1, none⟩) (lt_of_cell r1)).trans r1
              have r22 := (b2.cell (p := ⟨bw, 2, none⟩) (lt_of_cell r2)).trans r2
              have rf2 : ∀ j, v2.frozen? ⟨bw, j, none⟩ = false := (R1.out.2.1.below b2).fz
              have a12 := (b2.cell (p := ⟨ba, 1, none⟩) hbal).trans a1'
              have a22 := (b2.cell (p := ⟨ba, 2, none⟩) hbal).trans a2'
              have a32 := (b2.cell (p := ⟨ba, 3, none⟩) hbal).trans a3'
              have a42 := (b2.cell (p := ⟨ba, 4, none⟩) hbal).trans a4'
              have hv2 : v1.heap.size ≤ v2.heap.size := b2.size
              have hbav : ba < v2.heap.size := by omega
              have hbwv : bw < v2.heap.size := by omega
              have at2 := R1.out.1.same b2
              have at3 := at2.other tn.2 (fun b hb e => R1.out.2.1.no (e ▸ hb)) (at2.bel.trans (tn.2.below at2.bel.size (fun i e => by omega)))
              have R3 := Lib.hid (show _ ∧ _ ∧ _ ∧ T' = T + tk ∧ _ from ⟨at3, tn.1, tn.2, hT', sl⟩)
              have HFB := Lib.hid hfb
              clear at2 at3 tn sl b2 hT' hlog' hfr hn' hok' hfb
              go_wp2_with fail
              refine (HPR.out _ R3.out.1).mono ?_
              rintro e v4 ⟨rfl, at4, k4⟩
              have rf4 := R3.out.2.1.kept k4
              have at4' := at4
              rw [← HFB.out] at at4'
              rw [← R3.out.2.2.2.1] at at4'
              have t4 := rf4.c2
              have R5 := Lib.hid (show Rel w v4 s bw P (k + 1) from ⟨_, _, _, _, _, at4', rf4, by have := R3.out.2.2.2.1; have := R1.out.2.2.2.2.2.1; omega, by have := R3.out.2.2.2.2; have := R1.out.2.2.2.2.2.2; omega⟩)
              have S5 := Lib.hid at4'.sp
              clear at4 at4' rf4 k4 r0 r1 r2 r02 r12 r22 rf2 a12 a22 a32 a42 a0' a1' a2' a3' a4' HD HPR
              go_wp2_with fail
              go_quiet (first | (go_at_call 21; exact ticks_quiet S5.out _))
              go_wp2_with fail
              go_roundw
              case rel => exact ⟨k + 1, by omega, by go_num, by obtain ⟨T, O, l, A, c, h1, h2, h3, h4⟩ := R5.out; exact ⟨T, O, l, A, c, h1.drewN _, h2.below (below_drewN' (Below.refl _ _) _), h3, h4⟩⟩
              case measure => simp [intOf]; omega
            · have i2 : ¬ ((xd : Int) = 2) := by omega
              have i2' : ((xd : Int) == 2) = false := by simp; omega
              have htk : fT P xa xy xt ≤ 2097156 := Nat.le_trans (fT_le hP2) (by omega)
              have hdoc := docFill v1 P A ln c T hP2 l R1.out.2.2.1 R1.out.2.1.log R1.out.2.1.ok (by omega) (fun h => R1.out.2.1.emp (by have := R1.out.2.2.1; omega)) (by omega) xa xn xy xt HX.out.1 HX.out.2
              have hpro := fun (v3 : World) (at3 : At w v3 s P T (M.byteAt l) O) => at_cfill at3 xa xn xy xt HX.out.1 HX.out.2 (by omega)
              generalize hge : fE P xa xy xt = er at *
              generalize hgt : fT P xa xy xt = tk at *
              generalize hgf : fF P (M.byteAt l) xa xy xn xt = ff at *
              have HD := Lib.hid hdoc
              have HPR := Lib.hid hpro
              clear hdoc hpro hge hgt hgf
              go_wp2_with fail
              refine HD.out.mono ?_
              rintro e v2 ⟨l', A', c', n', T', hT', rfl, hn', hlog', hfr, b2, hfb, sl, hok'⟩
              have tn := R1.out.2.1.turn0 (T' := T') b2 (fun b hb => by have := R1.out.2.2.2.2.1 b hb; omega) hlog' hfr hok'
              rw [← hn'] at tn
              have r02 := (b2.cell (p := ⟨bw, 0, none⟩) (lt_of_cell r0)).trans r0
              have r12 := (b2.cell (p := ⟨bw, 1, none⟩) (lt_of_cell r1)).trans r1
              have r22 := (b2.cell (p := ⟨bw, 2, none⟩) (lt_of_cell r2)).trans r2
              have rf2 : ∀ j, v2.frozen? ⟨bw, j, none⟩ = false := (R1.out.2.1.below b2).fz
              have a12 := (b2.cell (p := ⟨ba, 1, none⟩) hbal).trans a1'
              have a22 := (b2.cell (p := ⟨ba, 2, none⟩) hbal).trans a2'
              have a32 := (b2.cell (p := ⟨ba, 3, none⟩) hbal).trans a3'
              have a42 := (b2.cell (p := ⟨ba, 4, none⟩) hbal).trans a4'
              have hv2 : v1.heap.size ≤ v2.heap.size := b2.size
              have hbav : ba < v2.heap.size := by omega
              have hbwv : bw < v2.heap.size := by omega
              have at2 := R1.out.1.same b2
              have at3 := at2.other tn.2 (fun b hb e => R1.out.2.1.no (e ▸ hb)) (at2.bel.trans (tn.2.below at2.bel.size (fun i e => by omega)))
              have R3 := Lib.hid (show _ ∧ _ ∧ _ ∧ T' = T + tk ∧ _ from ⟨at3, tn.1, tn.2, hT', sl⟩)
              have HFB := Lib.hid hfb
              clear at2 at3 tn sl b2 hT' hlog' hfr hn' hok' hfb
              go_wp2_with fail
              refine (HPR.out _ R3.out.1).mono ?_
              rintro e v4 ⟨rfl, at4, k4⟩
              have rf4 := R3.out.2.1.kept k4
              have at4' := at4
              rw [← HFB.out] at at4'
              rw [← R3.out.2.2.2.1] at at4'
              have t4 := rf4.c2
              have R5 := Lib.hid (show Rel w v4 s bw P (k + 1) from ⟨_, _, _, _, _, at4', rf4, by have := R3.out.2.2.2.1; have := R1.out.2.2.2.2.2.1; omega, by have := R3.out.2.2.2.2; have := R1.out.2.2.2.2.2.2; omega⟩)
              have S5 := Lib.hid at4'.sp
              clear at4 at4' rf4 k4 r0 r1 r2 r02 r12 r22 rf2 a12 a22 a32 a42 a0' a1' a2' a3' a4' HD HPR
              go_wp2_with fail
              go_quiet (first | (go_at_call 21; exact ticks_quiet S5.out _))
              go_wp2_with fail
              go_roundw
              case rel => exact ⟨k + 1, by omega, by go_num, by obtain ⟨T, O, l, A, c, h1, h2, h3, h4⟩ := R5.out; exact ⟨T, O, l, A, c, h1.drewN _, h2.below (below_drewN' (Below.refl _ _) _), h3, h4⟩⟩
              case measure => simp [intOf]; omega
      · obtain ⟨T, O, l, A, c, at0, rf0, hT, hll⟩ := hrel
        have HW := Lib.hid at0.bel
        clear at0 rf0 hT hll ST
        go_wp2_with fail
        refine (cget_bad (.pointer none) 0 3 (by decide) (by decide) _).mono ?_
        rintro e w' ⟨rfl, rfl⟩
        go_wp2_with fail
        refine (cget_nil 0 1 (by decide) (by decide) (by decide) _).mono ?_
        rintro e v1 ⟨rfl, b1⟩
        have HW1 := Lib.hid (below_call HW.out b1)
        clear b1
        go_wp2_with fail
        refine (cput_nil 8 8 1 (by decide) (by decide) (by decide) (by decide) _).mono ?_
        rintro e v2 ⟨rfl, b2⟩
        have HW2 := Lib.hid (below_call HW1.out b2)
        clear b2
        go_wp2_with fail
        go_ret
        exact ⟨rfl, HW2.out⟩
  · have hf' : fewB ls = false := by simpa using hf
    clear hf
    go_wp2
    go_ret
    exact ⟨rfl, B1.out⟩

/-! The row's step. -/
set_option maxRecDepth 100000 in
theorem lifted (os : Os) (started : os.Started) (H : Type) (enc : TypeId × Value → H) :
    ReturnsInHanded {} Try.checked os 3 .any (Rows.cellsPlaysSpec.pre6 enc Try.prog Try.f3 Rows.cellsPlaysRow.domain false) (Rows.cellsPlaysSpec.post enc Try.prog Try.f3 false true false false) := by
  refine returnsInHanded_of_change (C := Try.checked) own started (by kernel_rfl) Try.func3
    (ChangeSpec.witness6 (enc := enc) (C := Try.checked) false ⟨#[], #[.int .i64 0, .slice none 0 0], []⟩ 8 (by kernel_rfl) (by kernel_rfl) (by kernel_rfl) (by kernel_rfl)) ?_
  intro W base args ds gs before hval0 hW hcnd _
  have hval : ∀ (j : Nat) t v, Try.f3.params[j]? = some t → args[j]? = some v → Value.okWide Try.prog W .any base t v := hval0
  have hW' := hW
  obtain ⟨p, q, hA0, hV, rfl, hfz, hnd⟩ := hW
  have hA : DataW.TrodAll enc Try.prog W 0 (fun _ => true) true Try.f3.params.toList args.toList ds p := hA0
  rw [Try.params3] at hA hval
  obtain ⟨v0, vs0, d0, ds0, p0, q0, hargs, rfl, rfl, h0, r0⟩ := trodAll_cons hA
  obtain ⟨v1, vs1, d1, ds1, p1, q1, rfl, rfl, rfl, h1, r1⟩ := trodAll_cons r0
  obtain ⟨rfl, rfl, rfl⟩ := trodAll_nil r1
  obtain rfl : args = #[v0, v1] := by cases args; simp_all
  obtain ⟨rfl, rfl⟩ := trodVars_none hV
  obtain ⟨a0, rfl, rfl, rfl, w0⟩ := open_int Try.underlying3 (hval 0 3 v0 rfl rfl) h0
  obtain ⟨a1, len1, cap1, rfl⟩ := okWide_slice Try.underlying22 (hval 1 22 v1 rfl rfl)
  have k1 := h1
  have lt1 : ∀ x ∈ p1, x.block < W.heap.size := by obtain ⟨m, hm⟩ := k1; exact DataW.trod_lt m _ _ _ hm
  have w1 : IsActs W a1 len1 := by
    obtain ⟨fuel, hf⟩ := h1
    obtain ⟨A, l, c, hcs, hw⟩ := acts_open hf
    simp [Value.cells] at hcs
    obtain ⟨rfl, rfl, rfl⟩ := hcs
    exact hw
  clear hA0 hval0
  refine (walk a0 a1 len1 cap1 W w0 w1).mono fun e W' ⟨he, bel⟩ => ?_
  subst he
  exact ⟨_, rfl, _, _, _, [], _, [], hW', trodAll_mk1 (shut_bool Try.underlying4 _), (trodAll_cons_mk (shut_int Try.underlying3 w0) (trodAll_cons_mk (Below.trod laidOut (by kernel_rfl) (of_decide_eq_true (by kernel_rfl)) k1 bel lt1) trodAll_mk0)), rfl, bel.frame _, fun h => by cases h⟩

theorem over : Rows.cellsPlaysRow.holds Try.pinned (OpenSpec.ofChange Rows.cellsPlaysSpec) :=
  OpenClaim.holds_of_wide 3 Try.f3 rfl rfl rfl rfl rfl rfl rfl ⟨rfl, rfl, rfl, rfl, rfl⟩ rfl rfl rfl rfl rfl (by kernel_rfl) Try.func3 (by kernel_rfl)
    (of_decide_eq_true (by kernel_rfl)) (by unfold Func.isWrapper; first | (rw [if_pos (by decide +kernel)]; kernel_rfl) | (rw [if_neg (by decide +kernel)]; exact ⟨rfl, rfl⟩))
    (fun os started H enc _ => lifted os started H enc)

/-- The statement. -/
theorem proved : Rows.CellsPlaysSaid := over
#print axioms proved
end Go.Proofs.Ytpcahaihlcaabaa.cellsPlays
