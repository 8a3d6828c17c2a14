/-
  HeaderBack is true whatever the input: what was written is read, at each of many pages; what is linked changes that one alone, what is cleared is none any more; no conditions.
-/
import Derived.Test.YtacognejefeboaaRows
import Derived.WalkKit
import Derived.ProofKit
import Derived.OpenShut
import Derived.ShutString
import Derived.ChangeOld
import Derived.Below
import Derived.Test.YtacognejefeboaaL8
namespace Go.Proofs.Ytacognejefeboaa.headerBack
open Go.ChangeShapes Go.WideShapes Go.ChangeAt Go.RowKit
set_option linter.unusedVariables false

theorem own : ownKnob Try.prog.godebug = none := by kernel_rfl

/-- The first headers stand at their pages. -/
def AllS (f : Nat → UInt8) (l : List HeadD) (m : Nat) : Prop := ∀ j (hj : j < l.length), j < m → ∃ pn kn : Nat, l[j].p = pn ∧ l[j].k = kn ∧ Stands f j pn kn l[j].o l[j].n
/-- All of them, one of which was linked. -/
def AllL (f : Nat → UInt8) (l : List HeadD) (a next : Nat) : Prop := ∀ j (hj : j < l.length), ∃ pn kn nx : Nat, l[j].p = pn ∧ l[j].k = kn ∧ Stands f j pn kn l[j].o nx ∧ (j = a → nx = next) ∧ (j ≠ a → nx = l[j].n)
theorem AllS.step {f : Nat → UInt8} {l : List HeadD} {m : Nat} (h : AllS f l m) (hm : m < l.length) (pn kn : Nat) (e1 : l[m].p = pn) (e2 : l[m].k = kn) (hr : M.right (pn : Nat) (kn : Nat) = true) (ho : l[m].o < 18446744073709551616) (hn : l[m].n < 18446744073709551616) :
    AllS (M.wr f (m * 4096) (M.hd pn kn l[m].o l[m].n)) l (m + 1) := fun j hj hjm => by
  rcases Nat.lt_or_ge j m with h1 | h1
  · obtain ⟨a, b, ea, eb, st⟩ := h j hj h1
    exact ⟨a, b, ea, eb, st.apart _ _ (Or.inl (by omega))⟩
  · have e : j = m := by omega
    subst e
    exact ⟨pn, kn, e1, e2, Stands.written f j pn kn _ _ hr ho hn⟩
theorem AllS.link {f : Nat → UInt8} {l : List HeadD} (h : AllS f l l.length) (a next : Nat) (hn : next < 18446744073709551616) : AllL (M.wr f (a * 4096 + 24) (M.enc 8 next)) l a next := fun j hj => by
  obtain ⟨pn, kn, ep, ek, st⟩ := h j hj hj
  by_cases e : j = a
  · subst e
    exact ⟨pn, kn, next, ep, ek, st.linked next hn, fun _ => rfl, fun h => absurd rfl h⟩
  · exact ⟨pn, kn, _, ep, ek, st.apart _ _ (by rw [M.enc_length]; omega), fun h => absurd h e, fun _ => rfl⟩
theorem write_no {w0 w : World} {s P T : Nat} {f : Nat → UInt8} {O : Nat → Prop} (h : At w0 w s P T f O) (x p k : Int) (o n : Nat) (hr : M.right p k = false) :
    Calls Try.prog 14 #[.pointer (some ⟨s, 0, none⟩), .int .i64 x, hv p k o n] w fun e w' => e = .returned (.int .i64 1) ∧ At w0 w' s P T f O := by
  refine (write_arg _ x p k o n hr w).mono ?_
  rintro e w' ⟨rfl, b⟩
  exact ⟨rfl, h.same b⟩

/-! The walk. -/
set_option maxRecDepth 20000 in
set_option maxHeartbeats 20000000 in
theorem walk (a0 : Option Addr) (len0 cap0 : Nat) (a1 : Int) (a2 : Int) (w : World) (w0 : IsHeads w a0 len0) (w1 : (Lit.int .u8 a1).wf = true) (w2 : (Lit.int .u64 a2).wf = true) :
    Calls Try.prog 4 #[.slice a0 len0 cap0, .int .u8 a1, .int .u64 a2] w fun e w' => e = .returned (.bool true) ∧ Below w.heap.size w w' := by
  obtain ⟨hlen, ls, hls, hheads⟩ := w0
  obtain ⟨kk, hkk, rfl⟩ := u8_nat w1
  obtain ⟨next, hnext, rfl⟩ := u64_nat w2
  have HL := Lib.hid (And.intro hls hheads)
  clear hls hheads w1 w2
  go_enter Try.func4, Try.ntmps4
  go_wp2_with fail
  refine (awake_any _).mono ?_
  rintro e w1 ⟨rfl, b1⟩
  have B1 := Lib.hid b1
  clear b1
  by_cases h20 : 20 < len0
  · have d0 : decide ((20 : Int) < (len0 : Int)) = true := by simp; omega
    clear h20
    go_wp2_with fail
    go_ret
    exact ⟨rfl, B1.out⟩
  have d0 : decide ((20 : Int) < (len0 : Int)) = false := by simp; omega
  by_cases h00 : len0 = 0
  · subst h00
    go_wp2_with fail
    go_ret
    exact ⟨rfl, B1.out⟩
  have e00 : ((len0 : Int) == 0) = false := by simp; omega
  go_wp2_with fail
  refine (at_new (Below.refl w1.heap.size w1) 20 20 (by decide)).mono ?_
  rintro e w2 ⟨s, O2, rfl, A2⟩
  have H2 := Lib.hid (show At w1 w2 s 20 0 (fun _ => 0) O2 ∧ AllS (fun _ => 0) ls 0 from ⟨A2, fun j _ h => absurd h (by omega)⟩)
  clear A2 d0 e00
  go_wp2_with fail
  go_loopw [9, 10, 11] (fun n i e wr => ∃ m : Nat, m ≤ len0 ∧ n = .int .i64 (m : Int) ∧ i = .int .i64 (m : Int) ∧ ∃ f O, At w1 wr s 20 m f O ∧ AllS f ls m) (fun n i e _ => len0 - (intOf i).toNat)
  case atStart => exact ⟨0, by omega, rfl, rfl, _, _, H2.out⟩
  case round =>
    obtain ⟨m, hm, rfl, rfl, f, O, at0, al0⟩ := hrel
    have R0 := Lib.hid (And.intro at0 al0)
    clear at0 al0 H2
    by_cases hlt : m < len0
    · have hml : m < ls.length := by have := HL.out.1; omega
      obtain ⟨bl, o, rfl, hc⟩ := HL.out.2 (by omega)
      have hx := ((hc m hml).below B1.out).below R0.out.1.bel
      have c0 := hx.c0
      have c1 := hx.c1
      have c2 := hx.c2
      have c3 := hx.c3
      have HO := Lib.hid hx.ok
      have hx1 := (hc m hml).below B1.out
      have HC := Lib.hid (show ∀ W, Below w1.heap.size w1 W → W.cell? ⟨bl, o + m * 4, none⟩ = some (.int .i64 ls[m].p) ∧ W.cell? ⟨bl, o + m * 4 + 1, none⟩ = some (.int .i64 ls[m].k) from fun W hW => ⟨(hx1.below hW).c0, (hx1.below hW).c1⟩)
      have stp := fun pn kn e1 e2 hr => R0.out.2.step hml pn kn e1 e2 hr hx.ok.o hx.ok.n
      have ST := Lib.hid stp
      obtain ⟨xp, hxp⟩ : ∃ z, z = ls[m].p := ⟨_, rfl⟩
      obtain ⟨xk, hxk⟩ : ∃ z, z = ls[m].k := ⟨_, rfl⟩
      obtain ⟨xo, hxo⟩ : ∃ z, z = ls[m].o := ⟨_, rfl⟩
      obtain ⟨xn, hxn⟩ : ∃ z, z = ls[m].n := ⟨_, rfl⟩
      rw [← hxp, ← hxk] at HC
      rw [← hxp] at c0
      rw [← hxk] at c1
      rw [← hxo] at c2
      rw [← hxn] at c3
      have HX := Lib.hid (show xo < 18446744073709551616 ∧ xn < 18446744073709551616 from ⟨by rw [hxo]; exact HO.out.o, by rw [hxn]; exact HO.out.n⟩)
      rw [← hxo, ← hxn, ← hxp, ← hxk] at ST
      clear hx hx1 hc HO stp hxp hxk hxo hxn
      by_cases hr : M.right xp xk = true
      · obtain ⟨pn, kn, rfl, rfl, hr⟩ := right_nat hr
        have HR := Lib.hid hr
        clear hr
        go_wp2_with fail
        refine (write_hd R0.out.1 m m pn kn pn kn xo xn rfl (by omega) rfl rfl HR.out HX.out.1 HX.out.2 (by omega)).mono ?_
        rintro e w3 ⟨rfl, A3, k3⟩
        have HA := Lib.hid (And.intro A3 (ST.out pn kn rfl rfl HR.out))
        clear A3 k3 c0 c1 c2 c3
        go_wp2_with fail
        go_roundw
        case rel => exact ⟨m + 1, by omega, by go_num, by go_num, _, _, HA.out⟩
        case measure => simp [intOf]; omega
      · have hr' : M.right xp xk = false := by simpa using hr
        have hn := (M.right_not xp xk).1 hr'
        have HR := Lib.hid hr'
        clear hr hr'
        go_wp2_with fail
        refine (write_no R0.out.1 m xp xk xo xn HR.out).mono ?_
        rintro e w3 ⟨rfl, A3⟩
        have cc := HC.out _ A3.bel
        have c0' := cc.1
        have c1' := cc.2
        have HA := Lib.hid A3.bel
        clear c0 c1 c2 c3 A3 cc
        by_cases h1 : xp < 1
        · have d1 : decide (xp < 1) = true := by simpa using h1
          clear h1 hn
          go_wp2_with fail
          go_ret
          exact ⟨rfl, below_call B1.out HA.out⟩
        · have d1 : decide (xp < 1) = false := by simpa using h1
          by_cases h2 : 1048576 < xp
          · have d2 : decide (1048576 < xp) = true := by simpa using h2
            clear h1 h2 hn
            go_wp2_with fail
            go_ret
            exact ⟨rfl, below_call B1.out HA.out⟩
          · have d2 : decide (1048576 < xp) = false := by simpa using h2
            by_cases h3 : xk < 0
            · have d3 : decide (xk < 0) = true := by simpa using h3
              clear h1 h2 h3 hn
              go_wp2_with fail
              go_ret
              exact ⟨rfl, below_call B1.out HA.out⟩
            · have d3 : decide (xk < 0) = false := by simpa using h3
              have d4 : decide (255 < xk) = true := by simp; omega
              clear h1 h2 h3 hn
              go_wp2_with fail
              go_ret
              exact ⟨rfl, below_call B1.out HA.out⟩
    · have e : m = len0 := by omega
      subst e
      clear hlt hm
      obtain ⟨j, hj⟩ : ∃ j, j = kk % m := ⟨_, rfl⟩
      have hjm : j < m := by rw [hj]; exact Nat.mod_lt _ (by omega)
      have hjI : (kk : Int).tmod (m : Int) = (j : Int) := by rw [hj]; rfl
      have hj20 : j < 20 := by omega
      have sj := (R0.out.2 j (by have := HL.out.1; omega) hjm)
      obtain ⟨pj, kj, ep, ek, st⟩ := sj
      have lk := AllS.link (by have := R0.out.2; rw [HL.out.1] at this; exact this) j next hnext
      have HJ := Lib.hid (And.intro st.isH lk)
      have m0 : ((m : Int) == 0) = false := by simp; omega
      clear ep ek st lk hj
      go_wp2_with fail
      refine (link_hd R0.out.1 j j next rfl hj20 HJ.out.1 hnext (by omega)).mono ?_
      rintro e w3 ⟨rfl, A3, k3⟩
      have H3 := Lib.hid (And.intro A3 HJ.out.2)
      generalize M.wr f (j * 4096 + 24) (M.enc 8 next) = f3 at *
      generalize Wid O wr w3 = O3 at *
      clear A3 k3 HJ hjI m0 R0
      go_wp2_with fail
      go_loopw [13, 14, 15, 16] (fun i h e v wr => ∃ t : Nat, t ≤ m ∧ i = .int .i64 (t : Int) ∧ At w1 wr s 20 (m + 2 + t) f3 O3) (fun i h e v _ => m - (intOf i).toNat)
      case atStart => exact ⟨0, by omega, rfl, H3.out.1⟩
      case round =>
        obtain ⟨t, ht, rfl, at4⟩ := hrel
        have R4 := Lib.hid at4
        clear at4
        by_cases hlt : t < m
        · have htl : t < ls.length := by have := HL.out.1; omega
          obtain ⟨bl, o, rfl, hc⟩ := HL.out.2 (by omega)
          obtain ⟨pn, kn, nx, ep, ek, st, hy, hn⟩ := H3.out.2 t htl
          have hx := (hc t htl).below B1.out
          have HC := Lib.hid (show ∀ W, Below w1.heap.size w1 W → W.cell? ⟨bl, o + t * 4, none⟩ = some (.int .i64 (pn : Int)) ∧ W.cell? ⟨bl, o + t * 4 + 1, none⟩ = some (.int .i64 (kn : Int)) ∧ W.cell? ⟨bl, o + t * 4 + 2, none⟩ = some (.int .u64 (ls[t].o : Int)) ∧ W.cell? ⟨bl, o + t * 4 + 3, none⟩ = some (.int .u64 (ls[t].n : Int)) from
            fun W hW => ⟨by rw [← ep]; exact (hx.below hW).c0, by rw [← ek]; exact (hx.below hW).c1, (hx.below hW).c2, (hx.below hW).c3⟩)
          obtain ⟨xo, hxo⟩ : ∃ z, z = ls[t].o := ⟨_, rfl⟩
          obtain ⟨xn, hxn⟩ : ∃ z, z = ls[t].n := ⟨_, rfl⟩
          rw [← hxo] at HC st
          rw [← hxn] at HC hn
          have HS := Lib.hid (And.intro st (And.intro hy hn))
          clear hx hc ep ek st hy hn hxo hxn
          go_wp2_with fail
          refine (read_hd R4.out t t pn kn xo nx rfl (by omega) HS.out.1 (by omega)).mono ?_
          rintro e w5 ⟨rfl, A5, k5⟩
          have x6 := Box4.new w5 33 (.int .i64 (pn : Int)) (.int .i64 (kn : Int)) (.int .u64 (xo : Int)) (.int .u64 (nx : Int))
          have b6 := below_new w5 (.cells #[.int .i64 (pn : Int), .int .i64 (kn : Int), .int .u64 (xo : Int), .int .u64 (nx : Int)] 33)
          have H6 := Lib.hid (And.intro (A5.same b6) x6)
          have cc := HC.out _ (A5.same b6).bel
          clear A5 k5 b6 x6
          go_upto_region 24 with fail
          generalize w5.alloc (.cells #[.int .i64 (pn : Int), .int .i64 (kn : Int), .int .u64 (xo : Int), .int .u64 (nx : Int)] 33) = w6 at *
          generalize w5.heap.size = g14 at *
          obtain ⟨c0, c1, c2, c3⟩ := cc
          have x7 := Box4.new w6 33 (.int .i64 (pn : Int)) (.int .i64 (kn : Int)) (.int .u64 (xo : Int)) (.int .u64 (xn : Int))
          have b7 := below_new w6 (.cells #[.int .i64 (pn : Int), .int .i64 (kn : Int), .int .u64 (xo : Int), .int .u64 (xn : Int)] 33)
          have y7 := H6.out.2.below b7
          have hlo : w1.heap.size ≤ w6.heap.size := H6.out.1.bel.size
          have hno : ¬ O3 w6.heap.size := fun e => by have := H6.out.1.sp.lt e; omega
          have H7 := Lib.hid (And.intro (H6.out.1.same b7) (And.intro y7 (And.intro x7 (And.intro hno hlo))))
          have hne : g14 < w6.heap.size := H6.out.2.lt
          clear y7 b7 x7 hno hlo
          go_upto_region 25 with fail
          clear c0 c1 c2 c3
          generalize w6.alloc (.cells #[.int .i64 (pn : Int), .int .i64 (kn : Int), .int .u64 (xo : Int), .int .u64 (xn : Int)] 33) = w7 at *
          generalize w6.heap.size = g16 at *
          by_cases htj : t = j
          · subst htj
            have e := HS.out.2.1 rfl
            subst e
            have y3 := H7.out.2.2.1.c3
            have yf := H7.out.2.2.1.fz 3
            have kk7 := (Kept.refl w7 (fun c => c = g16)).setCell (p := ⟨g16, 3, none⟩) (fun _ => rfl) (.int .u64 (nx : Int))
            have A8 := H7.out.1.other kk7 (fun c hc e => H7.out.2.2.2.1 (e ▸ hc)) (H7.out.1.bel.trans (kk7.below H7.out.1.bel.size (fun i e => by have := H7.out.2.2.2.2; omega)))
            have x8 := H7.out.2.1.kept kk7 (by omega)
            have z0 := (World.cell?_setCell_other w7 ⟨g16, 3, none⟩ ⟨g16, 0, none⟩ (.int .u64 (nx : Int)) (by simp)).trans H7.out.2.2.1.c0
            have z1 := (World.cell?_setCell_other w7 ⟨g16, 3, none⟩ ⟨g16, 1, none⟩ (.int .u64 (nx : Int)) (by simp)).trans H7.out.2.2.1.c1
            have z2 := (World.cell?_setCell_other w7 ⟨g16, 3, none⟩ ⟨g16, 2, none⟩ (.int .u64 (nx : Int)) (by simp)).trans H7.out.2.2.1.c2
            have z3 := World.cell?_setCell_same w7 ⟨g16, 3, none⟩ (.int .u64 (nx : Int)) y3
            have H8 := Lib.hid A8
            clear A8 kk7
            go_upto_region 27 with fail
            generalize w7.setCell ⟨g16, 3, none⟩ (.int .u64 (nx : Int)) = w8 at *
            have v0 := x8.c0
            have v1 := x8.c1
            have v2 := x8.c2
            have v3 := x8.c3
            clear x8 y3 yf
            go_wp2_with fail
            go_roundw
            case rel => exact ⟨t + 1, by omega, by go_num, H8.out⟩
            case measure => simp [intOf]; omega
          · have ej : ((t : Int) == (j : Int)) = false := by simp; omega
            have e := HS.out.2.2 htj
            subst e
            have v0 := H7.out.2.1.c0
            have v1 := H7.out.2.1.c1
            have v2 := H7.out.2.1.c2
            have v3 := H7.out.2.1.c3
            have z0 := H7.out.2.2.1.c0
            have z1 := H7.out.2.2.1.c1
            have z2 := H7.out.2.2.1.c2
            have z3 := H7.out.2.2.1.c3
            go_wp2_with fail
            go_roundw
            case rel => exact ⟨t + 1, by omega, by go_num, H7.out.1⟩
            case measure => simp [intOf]; omega
        · have e : t = m := by omega
          subst e
          obtain ⟨pj, kj, nj, ep, ek, st, ea, eb⟩ := H3.out.2 j (by have := HL.out.1; omega)
          have HS := Lib.hid st.isH
          clear ep ek ea eb st hlt
          go_wp2_with fail
          refine (clear_hd R4.out j j rfl hj20 HS.out (by omega)).mono ?_
          rintro e w5 ⟨rfl, A5, k5⟩
          have bad := cleared_bad f3 j
          generalize M.zr f3 (j * 4096) 32 = f5 at *
          have H5 := Lib.hid (And.intro A5 bad)
          clear A5 k5 bad
          go_wp2_with fail
          refine (read_bad H5.out.1 j j rfl hj20 H5.out.2 (by omega)).mono ?_
          rintro e w6 ⟨rfl, A6, k6⟩
          have H6 := Lib.hid (A6.same (below_new w6 (.cells #[.int .i64 0, .int .i64 0, .int .u64 0, .int .u64 0] 33)))
          clear A6 k6
          go_upto_region 32 with fail
          generalize w6.alloc (.cells #[.int .i64 0, .int .i64 0, .int .u64 0, .int .u64 0] 33) = w7 at *
          generalize w6.heap.size = g17 at *
          go_wp2_with fail
          refine (link_bad H6.out j j 1 rfl hj20 H5.out.2 (by omega) (by omega)).mono ?_
          rintro e w8 ⟨rfl, A8, k8⟩
          have H8 := Lib.hid A8
          clear A8 k8
          go_wp2_with fail
          refine (clear_bad H8.out j j rfl hj20 H5.out.2 (by omega)).mono ?_
          rintro e w9 ⟨rfl, A9, k9⟩
          have H9 := Lib.hid A9.bel
          clear A9 k9
          go_wp2_with fail
          go_ret
          exact ⟨rfl, below_call B1.out H9.out⟩

/-! The row's step. -/
set_option maxRecDepth 100000 in
theorem lifted (os : Os) (started : os.Started) (H : Type) (enc : TypeId × Value → H) :
    ReturnsInHanded {} Try.checked os 4 .any (Rows.headerBackSpec.pre6 enc Try.prog Try.f4 Rows.headerBackRow.domain false) (Rows.headerBackSpec.post enc Try.prog Try.f4 false true false false) := by
  refine returnsInHanded_of_change (C := Try.checked) own started (by kernel_rfl) Try.func4
    (ChangeSpec.witness6 (enc := enc) (C := Try.checked) false ⟨#[], #[.slice none 0 0, .int .u8 0, .int .u64 0], []⟩ 8 (by kernel_rfl) (by kernel_rfl) (by kernel_rfl) (by kernel_rfl)) ?_
  intro W base args ds gs before hval0 hW hcnd _
  have hval : ∀ (j : Nat) t v, Try.f4.params[j]? = some t → args[j]? = some v → Value.okWide Try.prog W .any base t v := hval0
  have hW' := hW
  obtain ⟨p, q, hA0, hV, rfl, hfz, hnd⟩ := hW
  have hA : DataW.TrodAll enc Try.prog W 0 (fun _ => true) true Try.f4.params.toList args.toList ds p := hA0
  rw [Try.params4] at hA hval
  obtain ⟨v0, vs0, d0, ds0, p0, q0, hargs, rfl, rfl, h0, r0⟩ := trodAll_cons hA
  obtain ⟨v1, vs1, d1, ds1, p1, q1, rfl, rfl, rfl, h1, r1⟩ := trodAll_cons r0
  obtain ⟨v2, vs2, d2, ds2, p2, q2, rfl, rfl, rfl, h2, r2⟩ := trodAll_cons r1
  obtain ⟨rfl, rfl, rfl⟩ := trodAll_nil r2
  obtain rfl : args = #[v0, v1, v2] := by cases args; simp_all
  obtain ⟨rfl, rfl⟩ := trodVars_none hV
  obtain ⟨a0, len0, cap0, rfl⟩ := okWide_slice Try.underlying55 (hval 0 55 v0 rfl rfl)
  have k0 := h0
  have lt0 : ∀ x ∈ p0, x.block < W.heap.size := by obtain ⟨m, hm⟩ := k0; exact DataW.trod_lt m _ _ _ hm
  have w0 : IsHeads W a0 len0 := by
    obtain ⟨fuel, hf⟩ := h0
    obtain ⟨A, l, c, hcs, hw⟩ := heads_open hf
    simp [Value.cells] at hcs
    obtain ⟨rfl, rfl, rfl⟩ := hcs
    exact hw
  obtain ⟨a1, rfl, rfl, rfl, w1⟩ := open_int Try.underlying5 (hval 1 5 v1 rfl rfl) h1
  obtain ⟨a2, rfl, rfl, rfl, w2⟩ := open_int Try.underlying31 (hval 2 31 v2 rfl rfl) h2
  clear hA0 hval0
  refine (walk a0 len0 cap0 a1 a2 W w0 w1 w2).mono fun e W' ⟨he, bel⟩ => ?_
  subst he
  exact ⟨_, rfl, _, _, _, [], _, [], hW', trodAll_mk1 (shut_bool Try.underlying4 _), (trodAll_cons_mk (Below.trod laidOut (by kernel_rfl) (of_decide_eq_true (by kernel_rfl)) k0 bel lt0) (trodAll_cons_mk (shut_int Try.underlying5 w1) (trodAll_cons_mk (shut_int Try.underlying31 w2) trodAll_mk0))), rfl, bel.frame _, fun h => by cases h⟩

theorem over : Rows.headerBackRow.holds Try.pinned (OpenSpec.ofChange Rows.headerBackSpec) :=
  OpenClaim.holds_of_wide 4 Try.f4 rfl rfl rfl rfl rfl rfl rfl ⟨rfl, rfl, rfl, rfl, rfl⟩ rfl rfl rfl rfl rfl (by kernel_rfl) Try.func4 (by kernel_rfl)
    (of_decide_eq_true (by kernel_rfl)) (by unfold Func.isWrapper; first | (rw [if_pos (by decide +kernel)]; kernel_rfl) | (rw [if_neg (by decide +kernel)]; exact ⟨rfl, rfl⟩))
    (fun os started H enc _ => lifted os started H enc)

/-- The statement. -/
theorem proved : Rows.HeaderBackSaid := over
#print axioms proved
end Go.Proofs.Ytacognejefeboaa.headerBack
