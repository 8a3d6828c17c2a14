/-
  SpacePlays is true whatever the input: whatever is loaded, stored, zeroed and copied, in a space of any pages, each answer, and how many pages were touched, are the document's, step by step; no conditions.
-/
import Derived.Test.YtdchnncoddjngaaRows
import Derived.WalkKit
import Derived.ProofKit
import Derived.OpenShut
import Derived.ShutString
import Derived.ChangeOld
import Derived.Below
import Derived.Test.YtdchnncoddjngaaBoth
import Derived.Deep.DeepCutAuto
import Derived.Deep.RegionHeld3
namespace Go.Proofs.Ytdchnncoddjngaa.spacePlays
open Go.ChangeShapes Go.WideShapes Go.ChangeAt Go.RowKit
set_option linter.unusedVariables false

theorem own : ownKnob Try.prog.godebug = none := by kernel_rfl

theorem ticks_quiet {w : World} {s P T : Nat} {f : Nat → UInt8} {O : Nat → Prop} (h : Sp w s P T f O) (n : Nat) :
    Calls Try.prog 22 #[.pointer (some ⟨s, 0, none⟩)] (w.drewN n) fun e w'' => e = .returned (.int .i64 (T : Int)) ∧ ∃ m, w'' = w.drewN m := (sticks_any (h.drewN n)).mono fun e w' ⟨he, hw⟩ => ⟨he, n, hw.symm⟩
/-- Behind some acts: the program's space and the document's, side by side. -/
def Rel (w0 wr : World) (s bw P k : Nat) : Prop := ∃ T O l A c, At w0 wr s P T (M.byteAt l) O ∧ RefP wr bw P T O l A c ∧ T ≤ k * 4194304 ∧ l.length ≤ k
def Rel2 (w0 wr : World) (s bw P T : Nat) (l : List M.Ent) (j : Nat) : Prop := ∃ T2 O A c, At w0 wr s P T2 (M.byteAt l) O ∧ RefP wr bw P T O l A c ∧ T2 ≤ T + j * 4194304
theorem ssize_let {w : World} {s P T : Nat} {f : Nat → UInt8} {O : Nat → Prop} (h : Sp w s P T f O) (Z : Nat) (hZ : Z = P * 4096) :
    Calls Try.prog 26 #[.pointer (some ⟨s, 0, none⟩)] w fun e w' => e = .returned (.int .u64 (Z : Int)) ∧ w = w' := by
  subst hZ
  exact ssize_any h
theorem rsize_at (w : World) (P : Nat) (A : Option Addr) (n c T : Nat) (hP : P ≤ 1048576) (Z : Nat) (hZ : Z = P * 4096) :
    Calls Try.prog 23 #[refV P A n c T] w fun e w' => e = .returned (.int .u64 (Z : Int)) ∧ Below w.heap.size w w' := by
  subst hZ
  exact rsize_any w P A n c T hP
theorem t30 {T k : Nat} (h : T ≤ k * 4194304) (hk : k ≤ 30) : T ≤ 125829120 := by omega
theorem act_world (w : World) (v0 v1 v2 v3 v4 : Value) : ∀ j, (w.alloc (.cells #[v0, v1, v2, v3, v4] 34)).cell? ⟨w.heap.size, j, none⟩ = (#[v0, v1, v2, v3, v4] : Array Value)[j]? := fun j => World.cell?_alloc_mark _ _ _ _ _

/-! The walk. -/
set_option maxRecDepth 20000 in
set_option maxHeartbeats 40000000 in
theorem walk (a0 : Int) (a1 : Option Addr) (len1 cap1 : Nat) (w : World) (w0 : (Lit.int .i64 a0).wf = true) (w1 : IsActs w a1 len1) :
    Calls Try.prog 3 #[.int .i64 a0, .slice a1 len1 cap1] w fun e w' => e = .returned (.bool true) ∧ Below w.heap.size w w' := by
  have hpg := i64_range w0
  obtain ⟨hlen, ls, hls, hacts⟩ := w1
  have HA := Lib.hid (show len1 = ls.length ∧ Acts w a1 ls from ⟨hls, hacts⟩)
  clear hls hacts
  obtain ⟨P, hP⟩ : ∃ P : Nat, (P : Int) = min (max a0 1) 1048576 := ⟨(min (max a0 1) 1048576).toNat, by omega⟩
  have hP1 : 1 ≤ P := by omega
  have hP2 : P ≤ 1048576 := by omega
  have HP := Lib.hid hP
  clear hP hpg w0
  go_enter Try.func3, Try.ntmps3
  go_wp2_with fail
  refine (awake_any _).mono ?_
  rintro e w1 ⟨rfl, b1⟩
  have B1 := Lib.hid b1
  clear b1
  go_wp2_with fail
  refine (few_any w1 a1 ls len1 cap1 HA.out.1 (HA.out.2.below B1.out) hlen).mono ?_
  rintro e w' ⟨rfl, rfl⟩
  by_cases hf : fewB ls = true
  · have hl30 := fewB_len hf
    have hz30 : len1 ≤ 30 := by have := HA.out.1; omega
    go_wp2_with fail
    refine (at_new (w0 := w) B1.out a0 P HP.out).mono ?_
    rintro e w2 ⟨s, O2, rfl, A2⟩
    have H2 := Lib.hid A2
    clear A2
    go_wp2_with fail
    refine (rnew_any a0 P HP.out _).mono ?_
    rintro e w3 ⟨rfl, b3⟩
    have H3 := Lib.hid (H2.out.same b3)
    have hO3 : ¬ O2 w3.heap.size := fun e => by have := H2.out.sp.lt e; have := b3.size; omega
    go_wp2_with fail
    have st : Rel w (w3.alloc (.cells #[.int .i64 (P : Int), .slice none 0 0, .int .i64 0] 29)) s w3.heap.size P 0 := by
      have cm := fun j => World.cell?_alloc_mark w3 #[.int .i64 (P : Int), .slice none 0 0, .int .i64 0] 29 (0, 0) j
      have fm := fun j => World.frozen?_alloc_mark w3 #[.int .i64 (P : Int), .slice none 0 0, .int .i64 0] 29 0 0 j
      refine ⟨0, O2, [], none, 0, by rw [M.byteAt_nil]; exact H3.out.alloc _, ⟨(cm 0).trans rfl, (cm 1).trans rfl, (cm 2).trans rfl, fun j => by rw [fm j]; simp, Lies.nil, fun _ => ⟨rfl, rfl⟩, fun h => absurd h (by simp), fun e he => (by cases he), hO3⟩, by omega, Nat.le_refl _⟩
    have hbw : w.heap.size ≤ w3.heap.size := H3.out.bel.size
    generalize hw4 : w3.alloc (.cells #[.int .i64 (P : Int), .slice none 0 0, .int .i64 0] 29) = w4 at *
    clear hw4
    generalize hbwe : w3.heap.size = bw at *
    have ST := Lib.hid st
    clear st b3 hO3 hbwe
    go_loopw [10] (fun i wr => ∃ k : Nat, k ≤ len1 ∧ i = .int .i64 (k : Int) ∧ Rel w wr s bw P k) (fun i _ => len1 - (intOf i).toNat)
    case atStart => exact ⟨0, by omega, rfl, ST.out⟩
    case round =>
      obtain ⟨k, hk, rfl, hrel⟩ := hrel
      by_cases hlt : k < len1
      · have hkl : k < ls.length := by have := HA.out.1; omega
        obtain ⟨bl, o, rfl, hc⟩ := HA.out.2 (by omega)
        obtain ⟨T, O, l, A, c, at0, rf0, hT, hll⟩ := hrel
        have hx := (hc k hkl).below at0.bel
        generalize hxe : ls[k] = x at hx
        have xap : 0 < x.b.length → ∀ ad, x.A = some ad → ad.block < w.heap.size := fun h0 ad e => by
          have := (hc k hkl).lies
          rw [hxe] at this
          exact lies_low this h0 ad e
        have xle : x.len ≤ 9000 := by
          have := fewB_all hf k hkl
          rw [hxe] at this
          unfold bad at this
          simp only [Bool.or_eq_false_iff, decide_eq_false_iff_not] at this
          omega
        have HXL := Lib.hid xle
        clear xle
        have c0 := hx.c0
        have c1 := hx.c1
        have c2 := hx.c2
        have c3 := hx.c3
        have c4 := hx.c4
        have n0 := hx.d
        have HX := Lib.hid (show (x.at' < 18446744073709551616 ∧ x.src < 18446744073709551616 ∧ x.n < 18446744073709551616) ∧ Lies wr x.A (u8s x.b) ∧ x.len = x.b.length ∧ x.len ≤ x.cap ∧ x.len ≤ 9223372036854775807 ∧ (0 < x.b.length → ∀ ad, x.A = some ad → ad.block < w.heap.size) from ⟨⟨hx.at', hx.src, hx.n⟩, hx.lies, hx.len, hx.cap, hx.top, xap⟩)
        obtain ⟨xd, xa, xs', xn, xA, xl, xc, xb⟩ := x
        simp only at c0 c1 c2 c3 c4 n0
        have R0 := Lib.hid (show At w wr s P T (M.byteAt l) O ∧ RefP wr bw P T O l A c ∧ T ≤ k * 4194304 ∧ l.length ≤ k from ⟨at0, rf0, hT, hll⟩)
        have hbwl := rf0.lt
        clear hx hxe hc xap at0 rf0 hT hll hk
        -- the act, in a variable of its own
        have av := act_world wr (.int .u8 (xd : Int)) (.int .u64 (xa : Int)) (.int .u64 (xs' : Int)) (.int .u64 (xn : Int)) (.slice xA xl xc)
        have at1 := R0.out.1.alloc (.cells #[.int .u8 (xd : Int), .int .u64 (xa : Int), .int .u64 (xs' : Int), .int .u64 (xn : Int), .slice xA xl xc] 34)
        have rf1 := R0.out.2.1.below ((Below.refl wr.heap.size wr).alloc (Nat.le_refl _) (.cells #[.int .u8 (xd : Int), .int .u64 (xa : Int), .int .u64 (xs' : Int), .int .u64 (xn : Int), .slice xA xl xc] 34))
        have hl1 := HX.out.2.1.alloc (.cells #[.int .u8 (xd : Int), .int .u64 (xa : Int), .int .u64 (xs' : Int), .int .u64 (xn : Int), .slice xA xl xc] 34)
        have hz1 : (wr.alloc (.cells #[.int .u8 (xd : Int), .int .u64 (xa : Int), .int .u64 (xs' : Int), .int .u64 (xn : Int), .slice xA xl xc] 34)).heap.size = wr.heap.size + 1 := by simp
        have hOlt : ∀ b, O b → b < wr.heap.size := fun b hb => R0.out.1.sp.lt hb
        go_upto_region 14 with fail
        generalize hw1 : wr.alloc (.cells #[.int .u8 (xd : Int), .int .u64 (xa : Int), .int .u64 (xs' : Int), .int .u64 (xn : Int), .slice xA xl xc] 34) = v1 at *
        clear hw1 c0 c1 c2 c3 c4
        generalize hba : wr.heap.size = ba at *
        clear hba
        have a0' : v1.cell? ⟨ba, 0, none⟩ = some (.int .u8 (xd : Int)) := av 0
        have a1' : v1.cell? ⟨ba, 1, none⟩ = some (.int .u64 (xa : Int)) := av 1
        have a2' : v1.cell? ⟨ba, 2, none⟩ = some (.int .u64 (xs' : Int)) := av 2
        have a3' : v1.cell? ⟨ba, 3, none⟩ = some (.int .u64 (xn : Int)) := av 3
        have a4' : v1.cell? ⟨ba, 4, none⟩ = some (.slice xA xl xc) := av 4
        obtain ⟨ln, hln⟩ : ∃ ln, ln = l.length := ⟨_, rfl⟩
        have r0 := rf1.c0
        have r1 := rf1.c1
        have r2 := rf1.c2
        rw [← hln] at r1
        have hbal : ba < v1.heap.size := by omega
        have R1 := Lib.hid (show At w v1 s P T (M.byteAt l) O ∧ RefP v1 bw P T O l A c ∧ ln = l.length ∧ Lies v1 xA (u8s xb) ∧ (∀ b, O b → b < ba) ∧ T ≤ k * 4194304 ∧ l.length ≤ k from ⟨at1, rf1, hln, hl1, hOlt, R0.out.2.2.1, R0.out.2.2.2⟩)
        clear av at1 rf1 hl1 hz1 hOlt hln R0
        by_cases d0 : xd = 0
        · subst d0
          go_wp2_with fail
          refine (doc0 v1 P A ln c T hP2 l R1.out.2.2.1 R1.out.2.1.log R1.out.2.1.ok (by have := R1.out; omega) (fun h => R1.out.2.1.emp (by have := R1.out.2.2.1; omega)) (by have := R1.out; omega) xa xn HX.out.1.1 HX.out.1.2.2).mono ?_
          rintro e v2 ⟨bs, tk, err, T', hT', rfl, b2, sp⟩
          have sl := sp.le hP2
          have l'e : l = l := rfl
          have tn := R1.out.2.1.turn (T' := T') b2 (fun b hb => by have := R1.out.2.2.2.2.1 b hb; omega) (Lies.below R1.out.2.1.log b2) (Or.inl ⟨rfl, rfl, rfl⟩) R1.out.2.1.ok (.cells #[.int .i64 (P : Int), .slice A l.length c, .int .i64 (T' : Int)] 29)
          rw [← R1.out.2.2.1] at tn
          have r02 := (b2.cell (p := ⟨bw, 0, none⟩) (lt_of_cell r0)).trans r0
          have r12 := (b2.cell (p := ⟨bw, 1, none⟩) (lt_of_cell r1)).trans r1
          have r22 := (b2.cell (p := ⟨bw, 2, none⟩) (lt_of_cell r2)).trans r2
          have rf2 : ∀ j, v2.frozen? ⟨bw, j, none⟩ = false := (R1.out.2.1.below b2).fz
          have a12 := (b2.cell (p := ⟨ba, 1, none⟩) hbal).trans a1'
          have a22 := (b2.cell (p := ⟨ba, 2, none⟩) hbal).trans a2'
          have a32 := (b2.cell (p := ⟨ba, 3, none⟩) hbal).trans a3'
          have a42 := (b2.cell (p := ⟨ba, 4, none⟩) hbal).trans a4'
          have hv2 : v1.heap.size ≤ v2.heap.size := b2.size
          have hbav : ba < v2.heap.size := by omega
          have hbwv : bw < v2.heap.size := by omega
          have at2 := R1.out.1.same b2
          have at3 := at2.other tn.2 (fun b hb e => R1.out.2.1.no (e ▸ hb)) (at2.bel.trans (tn.2.below at2.bel.size (fun i e => by omega)))
          have R3 := Lib.hid (show _ ∧ _ ∧ _ ∧ T' = T + tk ∧ _ from ⟨at3, tn.1, tn.2, hT', sl⟩)
          have SP := Lib.hid sp
          clear at2 at3 tn sl sp b2 hT' l'e
          go_wp2_with fail
          refine (pro0 R3.out.1 (by have := R1.out; omega) xa xn HX.out.1.1 HX.out.1.2.2 bs tk err SP.out).mono ?_
          rintro e v4 ⟨A4, n4, c4, rfl, hn4, lies4, at4, k4⟩
          have HN4 := Lib.hid hn4
          clear hn4
          have rf4 := R3.out.2.1.kept k4
          have hOba : ¬ O ba := fun e => by have := R1.out.2.2.2.2.1 ba e; omega
          have kk : Kept v2 v4 (fun b => O b ∨ b = bw) := (R3.out.2.2.1.mono (fun _ _ h => Or.inr h)).trans k4 (fun _ _ h => Or.inl h)
          have nba : ¬ (O ba ∨ ba = bw) := fun e => e.elim hOba (fun e => by omega)
          have a14 := kk.cell_some (p := ⟨ba, 1, none⟩) a12 nba
          have a24 := kk.cell_some (p := ⟨ba, 2, none⟩) a22 nba
          have a34 := kk.cell_some (p := ⟨ba, 3, none⟩) a32 nba
          have a44 := kk.cell_some (p := ⟨ba, 4, none⟩) a42 nba
          have R4 := Lib.hid (show _ ∧ _ from ⟨at4, rf4⟩)
          clear kk nba hOba at4 rf4 k4 r0 r1 r2 r02 r12 r22 rf2 a12 a22 a32 a42 a0' a1' a2' a3' a4'
          go_wp2_with fail
          refine (load_nil v4 xa xn).mono ?_
          rintro e v5 ⟨rfl, b5⟩
          have at5 := R4.out.1.same b5
          have rf5 := R4.out.2.below b5
          have q5 := conv_at v5 A4 n4 bs c4 HN4.out (lies4.below b5)
          rw [← R3.out.2.2.2.1] at at5
          have t5 := rf5.c2
          have R5 := Lib.hid (show Rel w v5 s bw P (k + 1) from ⟨_, _, _, _, _, at5, rf5, by have := R3.out.2.2.2; have := R1.out; omega, by have := R3.out.2.2.2; have := R1.out; omega⟩)
          have S5 := Lib.hid at5.sp
          clear at5 rf5 b5 a14 a24 a34 a44
          go_wp2_with fail
          go_quiet (first | (go_at_call 22; exact ticks_quiet S5.out _))
          go_wp2_with fail
          go_roundw
          case rel => exact ⟨k + 1, by omega, by go_num, by obtain ⟨T, O, l, A, c, h1, h2, h3, h4⟩ := R5.out; exact ⟨T, O, l, A, c, h1.drewN _, h2.below (below_drewN' (Below.refl _ _) _), h3, h4⟩⟩
          case measure => simp [intOf]; omega
        · have i0 : ¬ ((xd : Int) = 0) := by omega
          have i0' : ((xd : Int) == 0) = false := by simp; omega
          by_cases d1 : xd = 1
          · subst d1
            have q0 := conv_at v1 xA xl xb xc HX.out.2.2.1 R1.out.2.2.2.1
            have hxbl : xb.length = xl := HX.out.2.2.1.symm
            go_wp2_with fail
            refine (doc1 v1 P A ln c T hP2 l R1.out.2.2.1 R1.out.2.1.log R1.out.2.1.ok (by have := R1.out; omega) (fun h => R1.out.2.1.emp (by have := R1.out.2.2.1; omega)) (by have := R1.out; omega) xa xl xb HX.out.2.2.1.symm HX.out.1.1 (by have : xl ≤ 9000 := HXL.out; omega)).mono ?_
            rintro e v2 ⟨l', A', c', tk, err, n', T', hT', rfl, hn', hlog', hfr, b2, sp⟩
            have sl := sp.le hP2 HX.out.2.2.1.symm HX.out.1.1 R1.out.2.1.ok
            have tn := R1.out.2.1.turn (T' := T') b2 (fun b hb => by have := R1.out.2.2.2.2.1 b hb; omega) hlog' hfr sl.2.2 (.cells #[.int .i64 (P : Int), .slice A' l'.length c', .int .i64 (T' : Int)] 29)
            rw [← hn'] at tn
            have r02 := (b2.cell (p := ⟨bw, 0, none⟩) (lt_of_cell r0)).trans r0
            have r12 := (b2.cell (p := ⟨bw, 1, none⟩) (lt_of_cell r1)).trans r1
            have r22 := (b2.cell (p := ⟨bw, 2, none⟩) (lt_of_cell r2)).trans r2
            have rf2 : ∀ j, v2.frozen? ⟨bw, j, none⟩ = false := (R1.out.2.1.below b2).fz
            have a12 := (b2.cell (p := ⟨ba, 1, none⟩) hbal).trans a1'
            have a22 := (b2.cell (p := ⟨ba, 2, none⟩) hbal).trans a2'
            have a32 := (b2.cell (p := ⟨ba, 3, none⟩) hbal).trans a3'
            have a42 := (b2.cell (p := ⟨ba, 4, none⟩) hbal).trans a4'
            have hv2 : v1.heap.size ≤ v2.heap.size := b2.size
            have hbav : ba < v2.heap.size := by omega
            have hbwv : bw < v2.heap.size := by omega
            have at2 := R1.out.1.same b2
            have at3 := at2.other tn.2 (fun b hb e => R1.out.2.1.no (e ▸ hb)) (at2.bel.trans (tn.2.below at2.bel.size (fun i e => by omega)))
            have ly3 := tn.2.lies (R1.out.2.2.2.1.below b2) (fun hn ad e eb => by
              have h1 := HX.out.2.2.2.2.2 (by rw [u8s_length] at hn; exact hn) ad e
              have h2 : ad.block = bw := eb
              omega)
            have LY := Lib.hid ly3
            clear ly3
            have R3 := Lib.hid (show _ ∧ _ ∧ _ ∧ T' = T + tk ∧ _ from ⟨at3, tn.1, tn.2, hT', sl⟩)
            have SP := Lib.hid sp
            clear at2 at3 tn sl sp b2 hT' hlog' hfr hn' q0 hxbl
            go_wp2_with fail
            refine (pro1 R3.out.1 (by have := R1.out; omega) xa xl xc xA xb HX.out.2.2.1 LY.out HX.out.2.2.2.1 (fun h0 ad e => R3.out.1.low (HX.out.2.2.2.2.2 h0 ad e)) HX.out.1.1 HX.out.2.2.2.2.1 l' tk err SP.out).mono ?_
            rintro e v4 ⟨rfl, at4, k4⟩
            have rf4 := R3.out.2.1.kept k4
            have hOba : ¬ O ba := fun e => by have := R1.out.2.2.2.2.1 ba e; omega
            have kk : Kept v2 v4 (fun b => O b ∨ b = bw) := (R3.out.2.2.1.mono (fun _ _ h => Or.inr h)).trans k4 (fun _ _ h => Or.inl h)
            have nba : ¬ (O ba ∨ ba = bw) := fun e => e.elim hOba (fun e => by omega)
            have a14 := kk.cell_some (p := ⟨ba, 1, none⟩) a12 nba
            have a24 := kk.cell_some (p := ⟨ba, 2, none⟩) a22 nba
            have a34 := kk.cell_some (p := ⟨ba, 3, none⟩) a32 nba
            have a44 := kk.cell_some (p := ⟨ba, 4, none⟩) a42 nba
            have R4 := Lib.hid (show _ ∧ _ from ⟨at4, rf4⟩)
            clear kk nba hOba at4 rf4 k4 r0 r1 r2 r02 r12 r22 rf2 a12 a22 a32 a42 a0' a1' a2' a3' a4'
            go_wp2_with fail
            refine (store_nil v4 xa xl xc xA HX.out.2.2.2.2.1).mono ?_
            rintro e v5 ⟨rfl, b5⟩
            have at5 := R4.out.1.same b5
            have rf5 := R4.out.2.below b5
            rw [← R3.out.2.2.2.1] at at5
            have t5 := rf5.c2
            have R5 := Lib.hid (show Rel w v5 s bw P (k + 1) from ⟨_, _, _, _, _, at5, rf5, by have := R3.out.2.2.2; have := R1.out; omega, by have := R3.out.2.2.2; have := R1.out; omega⟩)
            have S5 := Lib.hid at5.sp
            clear at5 rf5 b5 a14 a24 a34 a44
            go_wp2_with fail
            go_quiet (first | (go_at_call 22; exact ticks_quiet S5.out _))
            go_wp2_with fail
            go_roundw
            case rel => exact ⟨k + 1, by omega, by go_num, by obtain ⟨T, O, l, A, c, h1, h2, h3, h4⟩ := R5.out; exact ⟨T, O, l, A, c, h1.drewN _, h2.below (below_drewN' (Below.refl _ _) _), h3, h4⟩⟩
            case measure => simp [intOf]; omega
          · have i1 : ¬ ((xd : Int) = 1) := by omega
            have i1' : ((xd : Int) == 1) = false := by simp; omega
            by_cases d2 : xd = 2
            · subst d2
              go_wp2_with fail
              refine (doc2 v1 P A ln c T hP2 l R1.out.2.2.1 R1.out.2.1.log R1.out.2.1.ok (by have := R1.out; omega) (fun h => R1.out.2.1.emp (by have := R1.out.2.2.1; omega)) (by have := R1.out; omega) xa xn HX.out.1.1 HX.out.1.2.2).mono ?_
              rintro e v2 ⟨l', A', c', tk, err, n', T', hT', rfl, hn', hlog', hfr, b2, sp⟩
              have sl := sp.le hP2 HX.out.1.1 HX.out.1.2.2 R1.out.2.1.ok
              have tn := R1.out.2.1.turn (T' := T') b2 (fun b hb => by have := R1.out.2.2.2.2.1 b hb; omega) hlog' hfr sl.2.2 (.cells #[.int .i64 (P : Int), .slice A' l'.length c', .int .i64 (T' : Int)] 29)
              rw [← hn'] at tn
              have r02 := (b2.cell (p := ⟨bw, 0, none⟩) (lt_of_cell r0)).trans r0
              have r12 := (b2.cell (p := ⟨bw, 1, none⟩) (lt_of_cell r1)).trans r1
              have r22 := (b2.cell (p := ⟨bw, 2, none⟩) (lt_of_cell r2)).trans r2
              have rf2 : ∀ j, v2.frozen? ⟨bw, j, none⟩ = false := (R1.out.2.1.below b2).fz
              have a12 := (b2.cell (p := ⟨ba, 1, none⟩) hbal).trans a1'
              have a22 := (b2.cell (p := ⟨ba, 2, none⟩) hbal).trans a2'
              have a32 := (b2.cell (p := ⟨ba, 3, none⟩) hbal).trans a3'
              have a42 := (b2.cell (p := ⟨ba, 4, none⟩) hbal).trans a4'
              have hv2 : v1.heap.size ≤ v2.heap.size := b2.size
              have hbav : ba < v2.heap.size := by omega
              have hbwv : bw < v2.heap.size := by omega
              have at2 := R1.out.1.same b2
              have at3 := at2.other tn.2 (fun b hb e => R1.out.2.1.no (e ▸ hb)) (at2.bel.trans (tn.2.below at2.bel.size (fun i e => by omega)))
              have R3 := Lib.hid (show _ ∧ _ ∧ _ ∧ T' = T + tk ∧ _ from ⟨at3, tn.1, tn.2, hT', sl⟩)
              have SP := Lib.hid sp
              clear at2 at3 tn sl sp b2 hT' hlog' hfr hn'
              go_wp2_with fail
              refine (pro2 R3.out.1 (by have := R1.out; omega) xa xn HX.out.1.1 HX.out.1.2.2 l' tk err SP.out).mono ?_
              rintro e v4 ⟨rfl, at4, k4⟩
              have rf4 := R3.out.2.1.kept k4
              have hOba : ¬ O ba := fun e => by have := R1.out.2.2.2.2.1 ba e; omega
              have kk : Kept v2 v4 (fun b => O b ∨ b = bw) := (R3.out.2.2.1.mono (fun _ _ h => Or.inr h)).trans k4 (fun _ _ h => Or.inl h)
              have nba : ¬ (O ba ∨ ba = bw) := fun e => e.elim hOba (fun e => by omega)
              have a14 := kk.cell_some (p := ⟨ba, 1, none⟩) a12 nba
              have a24 := kk.cell_some (p := ⟨ba, 2, none⟩) a22 nba
              have a34 := kk.cell_some (p := ⟨ba, 3, none⟩) a32 nba
              have a44 := kk.cell_some (p := ⟨ba, 4, none⟩) a42 nba
              have R4 := Lib.hid (show _ ∧ _ from ⟨at4, rf4⟩)
              clear kk nba hOba at4 rf4 k4 r0 r1 r2 r02 r12 r22 rf2 a12 a22 a32 a42 a0' a1' a2' a3' a4'
              go_wp2_with fail
              refine (zero_nil v4 xa xn).mono ?_
              rintro e v5 ⟨rfl, b5⟩
              have at5 := R4.out.1.same b5
              have rf5 := R4.out.2.below b5
              rw [← R3.out.2.2.2.1] at at5
              have t5 := rf5.c2
              have R5 := Lib.hid (show Rel w v5 s bw P (k + 1) from ⟨_, _, _, _, _, at5, rf5, by have := R3.out.2.2.2; have := R1.out; omega, by have := R3.out.2.2.2; have := R1.out; omega⟩)
              have S5 := Lib.hid at5.sp
              clear at5 rf5 b5 a14 a24 a34 a44
              go_wp2_with fail
              go_quiet (first | (go_at_call 22; exact ticks_quiet S5.out _))
              go_wp2_with fail
              go_roundw
              case rel => exact ⟨k + 1, by omega, by go_num, by obtain ⟨T, O, l, A, c, h1, h2, h3, h4⟩ := R5.out; exact ⟨T, O, l, A, c, h1.drewN _, h2.below (below_drewN' (Below.refl _ _) _), h3, h4⟩⟩
              case measure => simp [intOf]; omega
            · have i2 : ¬ ((xd : Int) = 2) := by omega
              have i2' : ((xd : Int) == 2) = false := by simp; omega
              go_wp2_with fail
              refine (doc3 v1 P A ln c T hP2 l R1.out.2.2.1 R1.out.2.1.log R1.out.2.1.ok (by have := R1.out; omega) (fun h => R1.out.2.1.emp (by have := R1.out.2.2.1; omega)) (by have := R1.out; omega) xa xs' xn HX.out.1.1 HX.out.1.2.1 HX.out.1.2.2).mono ?_
              rintro e v2 ⟨l', A', c', tk, err, n', T', hT', rfl, hn', hlog', hfr, b2, sp⟩
              have sl := sp.le hP2 HX.out.1.1 R1.out.2.1.ok
              have tn := R1.out.2.1.turn (T' := T') b2 (fun b hb => by have := R1.out.2.2.2.2.1 b hb; omega) hlog' hfr sl.2.2 (.cells #[.int .i64 (P : Int), .slice A' l'.length c', .int .i64 (T' : Int)] 29)
              rw [← hn'] at tn
              have r02 := (b2.cell (p := ⟨bw, 0, none⟩) (lt_of_cell r0)).trans r0
              have r12 := (b2.cell (p := ⟨bw, 1, none⟩) (lt_of_cell r1)).trans r1
              have r22 := (b2.cell (p := ⟨bw, 2, none⟩) (lt_of_cell r2)).trans r2
              have rf2 : ∀ j, v2.frozen? ⟨bw, j, none⟩ = false := (R1.out.2.1.below b2).fz
              have a12 := (b2.cell (p := ⟨ba, 1, none⟩) hbal).trans a1'
              have a22 := (b2.cell (p := ⟨ba, 2, none⟩) hbal).trans a2'
              have a32 := (b2.cell (p := ⟨ba, 3, none⟩) hbal).trans a3'
              have a42 := (b2.cell (p := ⟨ba, 4, none⟩) hbal).trans a4'
              have hv2 : v1.heap.size ≤ v2.heap.size := b2.size
              have hbav : ba < v2.heap.size := by omega
              have hbwv : bw < v2.heap.size := by omega
              have at2 := R1.out.1.same b2
              have at3 := at2.other tn.2 (fun b hb e => R1.out.2.1.no (e ▸ hb)) (at2.bel.trans (tn.2.below at2.bel.size (fun i e => by omega)))
              have R3 := Lib.hid (show _ ∧ _ ∧ _ ∧ T' = T + tk ∧ _ from ⟨at3, tn.1, tn.2, hT', sl⟩)
              have SP := Lib.hid sp
              clear at2 at3 tn sl sp b2 hT' hlog' hfr hn'
              go_wp2_with fail
              refine (pro3 R3.out.1 (by have := R1.out; omega) xa xs' xn HX.out.1.1 HX.out.1.2.1 HX.out.1.2.2 l' tk err SP.out).mono ?_
              rintro e v4 ⟨rfl, at4, k4⟩
              have rf4 := R3.out.2.1.kept k4
              have hOba : ¬ O ba := fun e => by have := R1.out.2.2.2.2.1 ba e; omega
              have kk : Kept v2 v4 (fun b => O b ∨ b = bw) := (R3.out.2.2.1.mono (fun _ _ h => Or.inr h)).trans k4 (fun _ _ h => Or.inl h)
              have nba : ¬ (O ba ∨ ba = bw) := fun e => e.elim hOba (fun e => by omega)
              have a14 := kk.cell_some (p := ⟨ba, 1, none⟩) a12 nba
              have a24 := kk.cell_some (p := ⟨ba, 2, none⟩) a22 nba
              have a34 := kk.cell_some (p := ⟨ba, 3, none⟩) a32 nba
              have a44 := kk.cell_some (p := ⟨ba, 4, none⟩) a42 nba
              have R4 := Lib.hid (show _ ∧ _ from ⟨at4, rf4⟩)
              clear kk nba hOba at4 rf4 k4 r0 r1 r2 r02 r12 r22 rf2 a12 a22 a32 a42 a0' a1' a2' a3' a4'
              go_wp2_with fail
              refine (copy_nil v4 xa xs' xn).mono ?_
              rintro e v5 ⟨rfl, b5⟩
              have at5 := R4.out.1.same b5
              have rf5 := R4.out.2.below b5
              rw [← R3.out.2.2.2.1] at at5
              have t5 := rf5.c2
              have R5 := Lib.hid (show Rel w v5 s bw P (k + 1) from ⟨_, _, _, _, _, at5, rf5, by have := R3.out.2.2.2; have := R1.out; omega, by have := R3.out.2.2.2; have := R1.out; omega⟩)
              have S5 := Lib.hid at5.sp
              clear at5 rf5 b5 a14 a24 a34 a44
              go_wp2_with fail
              go_quiet (first | (go_at_call 22; exact ticks_quiet S5.out _))
              go_wp2_with fail
              go_roundw
              case rel => exact ⟨k + 1, by omega, by go_num, by obtain ⟨T, O, l, A, c, h1, h2, h3, h4⟩ := R5.out; exact ⟨T, O, l, A, c, h1.drewN _, h2.below (below_drewN' (Below.refl _ _) _), h3, h4⟩⟩
              case measure => simp [intOf]; omega
      · obtain ⟨T, O, l, A, c, at0, rf0, hT, hll⟩ := hrel
        have hke : k = len1 := by omega
        obtain ⟨ln, hln⟩ : ∃ ln, ln = l.length := ⟨_, rfl⟩
        have ST2 := Lib.hid (show Rel2 w wr s bw P T l 0 from ⟨T, O, A, c, at0, rf0, by omega⟩)
        have hk30 : k ≤ 30 := by omega
        have hl30' : l.length ≤ 30 := Nat.le_trans hll hk30
        have hT30 := t30 hT hk30
        have HL := Lib.hid (show ln = l.length ∧ l.length ≤ 30 ∧ T ≤ 125829120 from ⟨hln, hl30', hT30⟩)
        clear at0 rf0 hT hll hk hke hln hk30 hl30' hT30
        obtain ⟨Z, hZ⟩ : ∃ Z : Nat, Z = P * 4096 := ⟨_, rfl⟩
        have hZ1 : 4096 ≤ Z := by omega
        have hZ2 : Z ≤ 4294967296 := by omega
        obtain ⟨Z8, hZ8⟩ : ∃ Z8 : Nat, (Z : Int) - 8 = (Z8 : Int) := ⟨Z - 8, by omega⟩
        have hwz : IntKind.u64.wrap (Z8 : Int) = (Z8 : Int) := by rw [wrapU]; omega
        have hz8' : Z8 + 8 = Z := by omega
        have HZ := Lib.hid (show Z = P * 4096 ∧ Z8 + 8 = Z from ⟨hZ, hz8'⟩)
        clear hZ hz8'
        go_wp2_with fail
        go_loopw [26] (fun i wx => ∃ j : Nat, j ≤ len1 ∧ i = .int .i64 (j : Int) ∧ Rel2 w wx s bw P T l j) (fun i _ => len1 - (intOf i).toNat)
        case atStart => exact ⟨0, by omega, rfl, ST2.out⟩
        case round =>
          obtain ⟨j, hj, rfl, hrel⟩ := hrel
          by_cases hjt : j < len1
          · have hjl : j < ls.length := by have := HA.out.1; omega
            obtain ⟨bl, o, rfl, hc⟩ := HA.out.2 (by omega)
            obtain ⟨T2, O2, A2, c2, at0, rf0, hT2⟩ := hrel
            have hx := (hc j hjl).below at0.bel
            have x1 := hx.c1
            have xb := hx.at'
            generalize hxe : (ls[j]).at' = xa at x1 xb
            have r0 := rf0.c0
            have r1 := rf0.c1
            have r2 := rf0.c2
            rw [← HL.out.1] at r1
            have hbw := rf0.lt
            have R0 := Lib.hid (show At w wr s P T2 (M.byteAt l) O2 ∧ RefP wr bw P T O2 l A2 c2 ∧ T2 ≤ T + j * 4194304 from ⟨at0, rf0, hT2⟩)
            clear hx hc hxe at0 rf0 hT2 hj
            go_wp2_with fail
            refine (rsize_at wr P A2 ln c2 T hP2 Z HZ.out.1).mono ?_
            rintro e v1 ⟨rfl, b1⟩
            have s0 := (b1.cell (p := ⟨bw, 0, none⟩) hbw).trans r0
            have s1 := (b1.cell (p := ⟨bw, 1, none⟩) hbw).trans r1
            have s2 := (b1.cell (p := ⟨bw, 2, none⟩) hbw).trans r2
            have R1 := Lib.hid (show At w v1 s P T2 (M.byteAt l) O2 ∧ RefP v1 bw P T O2 l A2 c2 ∧ T2 ≤ T + j * 4194304 from ⟨R0.out.1.same b1, R0.out.2.1.below b1, R0.out.2.2⟩)
            have hbw1 : bw < v1.heap.size := R1.out.2.1.lt
            clear b1 r0 r1 r2
            by_cases hbig : Z8 < xa
            · have dbig : decide ((Z8 : Int) < (xa : Int)) = true := by simp; omega
              go_wp2_with fail
              refine (rsize_at v1 P A2 ln c2 T hP2 Z HZ.out.1).mono ?_
              rintro e v2 ⟨rfl, b2⟩
              have u0 := (b2.cell (p := ⟨bw, 0, none⟩) hbw1).trans s0
              have u1 := (b2.cell (p := ⟨bw, 1, none⟩) hbw1).trans s1
              have u2 := (b2.cell (p := ⟨bw, 2, none⟩) hbw1).trans s2
              have R2 := Lib.hid (show At w v2 s P T2 (M.byteAt l) O2 ∧ RefP v2 bw P T O2 l A2 c2 from ⟨R1.out.1.same b2, R1.out.2.1.below b2⟩)
              clear b2 s0 s1 s2 hbw hbw1
              go_wp2_with fail
              refine (at_load R2.out.1 Z8 8 (by have := HZ.out; omega) (by decide) (by have := R1.out; have := HL.out; omega)).mono ?_
              rintro e v3 ⟨g3, rfl, at3, L3, k3, _, _⟩
              have tl := R2.out.1.tl Z8 8 (by have := HZ.out; omega)
              have rf3 := R2.out.2.kept k3
              have at3' : At w v3 s P (T2 + M.touched Z8 8) (M.byteAt l) (Wid O2 _ v3) := ⟨at3.sp.mono (fun _ h => Or.inl h) (fun b hb => hb.elim (fun h => at3.sp.lt h) (fun h => h.2)), at3.bel, R2.out.1.wid⟩
              have t0 := rf3.c0
              have t1 := rf3.c1
              have t2 := rf3.c2
              rw [← HL.out.1] at t1
              have hbw3 := rf3.lt
              have q3 : (convert 32 9 (.slice (some ⟨g3, 0, none⟩) 8 8)).run Try.prog v3.drew = .ok (.string ⟨(M.rd (M.byteAt l) Z8 8).toArray⟩) v3.drew := conv_at v3.drew _ 8 _ 8 (M.rd_length _ _ _).symm L3.own.lies
              have R3 := Lib.hid (show _ ∧ _ ∧ M.touched Z8 8 ≤ 1048578 ∧ Loose v3 O2 g3 (M.rd (M.byteAt l) Z8 8) from ⟨at3', rf3, tl, L3⟩)
              have hj4 : T2 + M.touched Z8 8 ≤ T + (j + 1) * 4194304 := by have := R3.out.2.2.1; have := R1.out; omega
              have rb : Calls Try.prog 24 #[refV P A2 ln c2 T, .int .u64 (Z8 : Int), .int .u64 (8 : Int)] v3.drew fun e v4 => e = .returned (.string ⟨(M.rd (M.byteAt l) Z8 8).toArray⟩) ∧ (convert 32 9 (.slice (some ⟨g3, 0, none⟩) 8 8)).run Try.prog v4 = .ok (.string ⟨(M.rd (M.byteAt l) Z8 8).toArray⟩) v4 ∧ v4.cell? ⟨bw, 0, none⟩ = some (.int .i64 (P : Int)) ∧ v4.cell? ⟨bw, 1, none⟩ = some (.slice A2 ln c2) ∧ v4.cell? ⟨bw, 2, none⟩ = some (.int .i64 (T : Int)) ∧ Rel2 w v4 s bw P T l (j + 1) := by
                refine (rbytes_any v3.drew P A2 ln c2 T l HL.out.1 R3.out.2.1.log R3.out.2.1.ok (by have := HL.out; omega) Z8 8 (by have := HZ.out; omega) (by decide)).mono ?_
                rintro e v4 ⟨rfl, b4⟩
                have h3 : bw < v3.drew.heap.size := hbw3
                exact ⟨rfl, conv_at v4 (some ⟨g3, 0, none⟩) 8 (M.rd (M.byteAt l) Z8 8) 8 (M.rd_length _ _ _).symm (R3.out.2.2.2.own.drew.lies.below b4), (b4.cell (p := ⟨bw, 0, none⟩) h3).trans t0, (b4.cell (p := ⟨bw, 1, none⟩) h3).trans t1, (b4.cell (p := ⟨bw, 2, none⟩) h3).trans t2, ⟨_, _, _, _, R3.out.1.drew.same b4, R3.out.2.1.below (below_call ((Below.refl _ _).drew) b4), hj4⟩⟩
              have RB := Lib.hid rb
              clear at3 L3 k3 tl rf3 at3' rb hj4
              go_wp2_with fail
              go_region_with (first
                | (go_at_call 24
                   refine RB.out.mono ?_
                   rintro e v4 ⟨rfl, q4, t04, t14, t24, r4⟩
                   have R4 := Lib.hid r4
                   clear r4))
              all_goals
                clear q3 t0 t1 t2
                go_wp2_with fail
                go_roundw
                case rel => exact ⟨j + 1, by omega, by go_num, R4.out⟩
                case measure => simp [intOf]; omega
            · have dbig : decide ((Z8 : Int) < (xa : Int)) = false := by simp; omega
              have hxz : xa ≤ Z8 := by omega
              go_wp2_with fail
              have R2 := Lib.hid (show At w v1 s P T2 (M.byteAt l) O2 ∧ RefP v1 bw P T O2 l A2 c2 from ⟨R1.out.1, R1.out.2.1⟩)
              clear s0 s1 s2 hbw hbw1
              refine (at_load R2.out.1 xa 8 (by have := HZ.out; omega) (by decide) (by have := R1.out; have := HL.out; omega)).mono ?_
              rintro e v3 ⟨g3, rfl, at3, L3, k3, _, _⟩
              have tl := R2.out.1.tl xa 8 (by have := HZ.out; omega)
              have rf3 := R2.out.2.kept k3
              have at3' : At w v3 s P (T2 + M.touched xa 8) (M.byteAt l) (Wid O2 _ v3) := ⟨at3.sp.mono (fun _ h => Or.inl h) (fun b hb => hb.elim (fun h => at3.sp.lt h) (fun h => h.2)), at3.bel, R2.out.1.wid⟩
              have t0 := rf3.c0
              have t1 := rf3.c1
              have t2 := rf3.c2
              rw [← HL.out.1] at t1
              have hbw3 := rf3.lt
              have q3 : (convert 32 9 (.slice (some ⟨g3, 0, none⟩) 8 8)).run Try.prog v3.drew = .ok (.string ⟨(M.rd (M.byteAt l) xa 8).toArray⟩) v3.drew := conv_at v3.drew _ 8 _ 8 (M.rd_length _ _ _).symm L3.own.lies
              have R3 := Lib.hid (show _ ∧ _ ∧ M.touched xa 8 ≤ 1048578 ∧ Loose v3 O2 g3 (M.rd (M.byteAt l) xa 8) from ⟨at3', rf3, tl, L3⟩)
              have hj4 : T2 + M.touched xa 8 ≤ T + (j + 1) * 4194304 := by have := R3.out.2.2.1; have := R1.out; omega
              have rb : Calls Try.prog 24 #[refV P A2 ln c2 T, .int .u64 (xa : Int), .int .u64 (8 : Int)] v3.drew fun e v4 => e = .returned (.string ⟨(M.rd (M.byteAt l) xa 8).toArray⟩) ∧ (convert 32 9 (.slice (some ⟨g3, 0, none⟩) 8 8)).run Try.prog v4 = .ok (.string ⟨(M.rd (M.byteAt l) xa 8).toArray⟩) v4 ∧ v4.cell? ⟨bw, 0, none⟩ = some (.int .i64 (P : Int)) ∧ v4.cell? ⟨bw, 1, none⟩ = some (.slice A2 ln c2) ∧ v4.cell? ⟨bw, 2, none⟩ = some (.int .i64 (T : Int)) ∧ Rel2 w v4 s bw P T l (j + 1) := by
                refine (rbytes_any v3.drew P A2 ln c2 T l HL.out.1 R3.out.2.1.log R3.out.2.1.ok (by have := HL.out; omega) xa 8 (by have := HZ.out; omega) (by decide)).mono ?_
                rintro e v4 ⟨rfl, b4⟩
                have h3 : bw < v3.drew.heap.size := hbw3
                exact ⟨rfl, conv_at v4 (some ⟨g3, 0, none⟩) 8 (M.rd (M.byteAt l) xa 8) 8 (M.rd_length _ _ _).symm (R3.out.2.2.2.own.drew.lies.below b4), (b4.cell (p := ⟨bw, 0, none⟩) h3).trans t0, (b4.cell (p := ⟨bw, 1, none⟩) h3).trans t1, (b4.cell (p := ⟨bw, 2, none⟩) h3).trans t2, ⟨_, _, _, _, R3.out.1.drew.same b4, R3.out.2.1.below (below_call ((Below.refl _ _).drew) b4), hj4⟩⟩
              have RB := Lib.hid rb
              clear at3 L3 k3 tl rf3 at3' rb hj4
              go_wp2_with fail
              go_region_with (first
                | (go_at_call 24
                   refine RB.out.mono ?_
                   rintro e v4 ⟨rfl, q4, t04, t14, t24, r4⟩
                   have R4 := Lib.hid r4
                   clear r4))
              all_goals
                clear q3 t0 t1 t2
                go_wp2_with fail
                go_roundw
                case rel => exact ⟨j + 1, by omega, by go_num, R4.out⟩
                case measure => simp [intOf]; omega
          · obtain ⟨T2, O2, A2, c2, at0, rf0, hT2⟩ := hrel
            have r0 := rf0.c0
            have r1 := rf0.c1
            have r2 := rf0.c2
            rw [← HL.out.1] at r1
            have hbw := rf0.lt
            have R0 := Lib.hid (show At w wr s P T2 (M.byteAt l) O2 ∧ RefP wr bw P T O2 l A2 c2 from ⟨at0, rf0⟩)
            clear at0 rf0 hT2 hj
            have SD := Lib.hid R0.out.1.sp.drew
            have hbwd : bw < wr.drew.heap.size := hbw
            have B0 := Lib.hid R0.out.1.bel
            go_wp2_with fail
            go_region_held3 (fun W => W.cell? ⟨bw, 0, none⟩ = some (.int .i64 (P : Int)) ∧ W.cell? ⟨bw, 1, none⟩ = some (.slice A2 ln c2) ∧ W.cell? ⟨bw, 2, none⟩ = some (.int .i64 (T : Int))) (first | exact ⟨r0, r1, r2⟩ | exact ⟨s0, s1, s2⟩) (first
              | (go_at_call 25; refine (spages_any SD.out).mono ?_; rintro e w' ⟨rfl, rfl⟩)
              | (go_at_call 25; refine (pages_nil _).mono ?_; rintro e w' ⟨rfl, rfl⟩)
              | (go_at_call 26; refine (ssize_let SD.out Z HZ.out.1).mono ?_; rintro e w' ⟨rfl, rfl⟩)
              | (go_at_call 26; refine (size_nil _).mono ?_; rintro e w' ⟨rfl, rfl⟩)
              | (go_at_call 22; refine (ticks_nil _).mono ?_; rintro e w' ⟨rfl, rfl⟩)
              | (go_at_call 27; refine (clone_nil _).mono ?_; rintro e w' ⟨rfl, rfl⟩)
              | (go_at_call 23
                 refine (rsize_at wr.drew P A2 ln c2 T hP2 Z HZ.out.1).mono ?_
                 rintro e v1 ⟨rfl, b1⟩
                 have s0 := (b1.cell (p := ⟨bw, 0, none⟩) hbwd).trans r0
                 have s1 := (b1.cell (p := ⟨bw, 1, none⟩) hbwd).trans r1
                 have s2 := (b1.cell (p := ⟨bw, 2, none⟩) hbwd).trans r2
                 have B1' := Lib.hid (below_call B0.out.drew b1)
                 clear b1))
            all_goals (go_wp2_with fail)
            all_goals go_ret
            all_goals exact ⟨rfl, B1'.out⟩
  · have hf' : fewB ls = false := by simpa using hf
    clear hf
    go_wp2
    go_ret
    exact ⟨rfl, B1.out⟩

/-! The row's step. -/
set_option maxRecDepth 100000 in
theorem lifted (os : Os) (started : os.Started) (H : Type) (enc : TypeId × Value → H) :
    ReturnsInHanded {} Try.checked os 3 .any (Rows.spacePlaysSpec.pre6 enc Try.prog Try.f3 Rows.spacePlaysRow.domain false) (Rows.spacePlaysSpec.post enc Try.prog Try.f3 false true false false) := by
  refine returnsInHanded_of_change (C := Try.checked) own started (by kernel_rfl) Try.func3
    (ChangeSpec.witness6 (enc := enc) (C := Try.checked) false ⟨#[], #[.int .i64 0, .slice none 0 0], []⟩ 8 (by kernel_rfl) (by kernel_rfl) (by kernel_rfl) (by kernel_rfl)) ?_
  intro W base args ds gs before hval0 hW hcnd _
  have hval : ∀ (j : Nat) t v, Try.f3.params[j]? = some t → args[j]? = some v → Value.okWide Try.prog W .any base t v := hval0
  have hW' := hW
  obtain ⟨p, q, hA0, hV, rfl, hfz, hnd⟩ := hW
  have hA : DataW.TrodAll enc Try.prog W 0 (fun _ => true) true Try.f3.params.toList args.toList ds p := hA0
  rw [Try.params3] at hA hval
  obtain ⟨v0, vs0, d0, ds0, p0, q0, hargs, rfl, rfl, h0, r0⟩ := trodAll_cons hA
  obtain ⟨v1, vs1, d1, ds1, p1, q1, rfl, rfl, rfl, h1, r1⟩ := trodAll_cons r0
  obtain ⟨rfl, rfl, rfl⟩ := trodAll_nil r1
  obtain rfl : args = #[v0, v1] := by cases args; simp_all
  obtain ⟨rfl, rfl⟩ := trodVars_none hV
  obtain ⟨a0, rfl, rfl, rfl, w0⟩ := open_int Try.underlying3 (hval 0 3 v0 rfl rfl) h0
  obtain ⟨a1, len1, cap1, rfl⟩ := okWide_slice Try.underlying22 (hval 1 22 v1 rfl rfl)
  have k1 := h1
  have lt1 : ∀ x ∈ p1, x.block < W.heap.size := by obtain ⟨m, hm⟩ := k1; exact DataW.trod_lt m _ _ _ hm
  have w1 : IsActs W a1 len1 := by
    obtain ⟨fuel, hf⟩ := h1
    obtain ⟨A, l, c, hcs, hw⟩ := acts_open hf
    simp [Value.cells] at hcs
    obtain ⟨rfl, rfl, rfl⟩ := hcs
    exact hw
  clear hA0 hval0
  refine (walk a0 a1 len1 cap1 W w0 w1).mono fun e W' ⟨he, bel⟩ => ?_
  subst he
  exact ⟨_, rfl, _, _, _, [], _, [], hW', trodAll_mk1 (shut_bool Try.underlying4 _), (trodAll_cons_mk (shut_int Try.underlying3 w0) (trodAll_cons_mk (Below.trod laidOut (by kernel_rfl) (of_decide_eq_true (by kernel_rfl)) k1 bel lt1) trodAll_mk0)), rfl, bel.frame _, fun h => by cases h⟩

theorem over : Rows.spacePlaysRow.holds Try.pinned (OpenSpec.ofChange Rows.spacePlaysSpec) :=
  OpenClaim.holds_of_wide 3 Try.f3 rfl rfl rfl rfl rfl rfl rfl ⟨rfl, rfl, rfl, rfl, rfl⟩ rfl rfl rfl rfl rfl (by kernel_rfl) Try.func3 (by kernel_rfl)
    (of_decide_eq_true (by kernel_rfl)) (by unfold Func.isWrapper; first | (rw [if_pos (by decide +kernel)]; kernel_rfl) | (rw [if_neg (by decide +kernel)]; exact ⟨rfl, rfl⟩))
    (fun os started H enc _ => lifted os started H enc)

/-- The statement. -/
theorem proved : Rows.SpacePlaysSaid := over
#print axioms proved
end Go.Proofs.Ytdchnncoddjngaa.spacePlays
