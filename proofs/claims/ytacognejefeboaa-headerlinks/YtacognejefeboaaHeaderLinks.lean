/-
  HeaderLinks is true whatever the input: headers that are linked one to the other lead from the last one to the first one, whatever is written behind them; no conditions.
-/
import Derived.Test.YtacognejefeboaaRows
import Derived.WalkKit
import Derived.ProofKit
import Derived.OpenShut
import Derived.ShutString
import Derived.ChangeOld
import Derived.Below
import Derived.Test.YtacognejefeboaaLn8
namespace Go.Proofs.Ytacognejefeboaa.headerLinks
open Go.ChangeShapes Go.WideShapes Go.ChangeAt Go.RowKit
set_option linter.unusedVariables false

theorem own : ownKnob Try.prog.godebug = none := by kernel_rfl

/-! The walk. -/
set_option maxRecDepth 20000 in
set_option maxHeartbeats 20000000 in
theorem walk (a0 : Option Addr) (len0 cap0 : Nat) (z0 : List Int) (a1 : Option Addr) (len1 cap1 : Nat) (z1 : List Int) (w : World) (w0 : IsRow .u8 w a0 len0 cap0 z0) (w1 : IsRow .u8 w a1 len1 cap1 z1) :
    Calls Try.prog 7 #[.slice a0 len0 cap0, .slice a1 len1 cap1] w fun e w' => e = .returned (.bool true) ∧ Below w.heap.size w w' := by
  have ht0 := row_top w0
  have ht1 := row_top w1
  obtain ⟨ps, hps, hpl⟩ := row_u8 w0
  obtain ⟨xs, hxs, hxl⟩ := row_u8 w1
  have hcap := row_u8c w1
  have HL := Lib.hid (And.intro hps (And.intro hpl (And.intro hxs hxl)))
  clear w0 w1 hps hpl hxs hxl
  go_enter Try.func7, Try.ntmps7
  go_wp2_with fail
  refine (awake_any _).mono ?_
  rintro e w1 ⟨rfl, b1⟩
  have B1 := Lib.hid b1
  clear b1
  by_cases h30 : 30 < len0
  · have d0 : decide ((30 : Int) < (len0 : Int)) = true := by simp; omega
    clear h30
    go_wp2_with fail
    go_ret
    exact ⟨rfl, B1.out⟩
  have d0 : decide ((30 : Int) < (len0 : Int)) = false := by simp; omega
  by_cases h300 : 300 < len1
  · have d1 : decide ((300 : Int) < (len1 : Int)) = true := by simp; omega
    clear h300 h30
    go_wp2_with fail
    go_ret
    exact ⟨rfl, B1.out⟩
  have d1 : decide ((300 : Int) < (len1 : Int)) = false := by simp; omega
  go_wp2_with fail
  refine (at_new (Below.refl w1.heap.size w1) 256 256 (by decide)).mono ?_
  rintro e w2 ⟨s, O2, rfl, A2⟩
  have hmk := make_bools w2
  have bm := bools_made w2
  have b3 := below_new w2 (.cells (madeCells #[.bool false] 256) 4)
  have hlt : ∀ c, O2 c → c < w2.heap.size := fun c hc => A2.sp.lt hc
  have hsz := A2.bel.size
  have H3 := Lib.hid (show At w1 _ s 256 0 (fun _ => 0) O2 ∧ Side w1 _ w2.heap.size (.slice none 0 0) [] O2 from ⟨A2.same b3, bm.same (fun _ _ => by simp), ⟨rfl, Or.inl ⟨rfl, rfl⟩⟩, fun e => by have := hlt _ e; omega, hsz, fun g e => by cases e⟩)
  clear A2 bm b3 hlt hsz d0 d1
  go_wp2_with fail
  clear hmk
  generalize w2.alloc (.cells (madeCells #[.bool false] 256) 4) = w3 at *
  generalize w2.heap.size = gu at *
  obtain ⟨i0, hi0⟩ := info_int
  have HI := Lib.hid hi0
  clear hi0
  go_loopw [8, 9, 10, 11] (fun v nx i p wr => ∃ m : Nat, m ≤ len0 ∧ i = .int .i64 (m : Int) ∧ ∃ (L : List Nat) (f : Nat → UInt8) (O : Nat → Prop) (T N : Nat), nx = .int .u64 (N : Int) ∧ N = prevN L L.length ∧ At w1 wr s 256 T f O ∧ Side w1 wr gu v L O ∧ Ch f L ∧ T ≤ 4 * m ∧ L.length ≤ m) (fun v nx i p _ => len0 - (intOf i).toNat)
  case atStart => exact ⟨0, by omega, rfl, [], _, _, 0, 0, rfl, rfl, H3.out.1, H3.out.2, fun j hj => absurd hj (by simp), by omega, by simp⟩
  case round =>
    obtain ⟨m, hm, rfl, L, f, O, T, N, rfl, hN, at0, sd0, ch0, hT, hLm⟩ := hrel
    obtain ⟨Av, cv, hv⟩ := row_form sd0.row
    subst hv
    obtain ⟨ll, hll⟩ : ∃ ll, ll = L.length := ⟨_, rfl⟩
    have hl31 : ll ≤ 30 := by omega
    have hT2 : T ≤ 120 := by omega
    rw [← hll] at sd0
    have R0 := Lib.hid (show At w1 wr s 256 T f O ∧ Side w1 wr gu (.slice Av ll cv) L O ∧ Ch f L ∧ N = prevN L L.length ∧ ll = L.length ∧ T ≤ 4 * m ∧ ll ≤ m from ⟨at0, sd0, ch0, hN, hll, hT, by omega⟩)
    rw [← hll]
    clear at0 sd0 ch0 hN hT hLm H3 hll
    by_cases hlt : m < len0
    · have hml : m < ps.length := by have := HL.out.1; omega
      obtain ⟨ad, rfl, hc⟩ := ((HL.out.2.1.below B1.out).below R0.out.1.bel) (by rw [u8s_length]; omega)
      have hcm := hc m (by rw [u8s_length]; omega)
      simp only [u8s, List.getElem_map] at hcm
      obtain ⟨x, hx⟩ : ∃ x, x = ps[m].toNat := ⟨_, rfl⟩
      have hx256 : x < 256 := by rw [hx]; exact ps[m].toNat_lt
      rw [← hx] at hcm
      have hu := (R0.out.2.1.us.cells x hx256).1
      have hf := (R0.out.2.1.us.cells x hx256).2
      clear hc hx hml
      by_cases hxL : x ∈ L
      · rw [decide_eq_true hxL] at hu
        go_wp2_with fail
        go_roundw
        case rel => exact ⟨m + 1, by omega, by go_num, L, f, O, T, N, rfl, R0.out.2.2.2.1, R0.out.1, R0.out.2.1, R0.out.2.2.1, by have := R0.out.2.2.2.2.2.1; omega, by have := R0.out.2.2.2.2; omega⟩
        case measure => simp [intOf]; omega
      · rw [decide_eq_false hxL] at hu
        have us := R0.out.2.1.use R0.out.1 x hx256
        have U1 := Lib.hid (And.intro us hxL)
        have hm31 : m ≤ 30 := by omega
        obtain ⟨q, hq⟩ : ∃ q, q = x * 4096 + 32 := ⟨_, rfl⟩
        have hq2 : (x : Int) * 4096 + 32 = (q : Int) := by omega
        have hqb : q + 300 ≤ 256 * 4096 := by omega
        have et : M.touched q len1 = 1 := by rw [M.touched_one]; omega
        have HQ := Lib.hid (And.intro hq et)
        have hNb : N < 18446744073709551616 := by have h1 := R0.out.2.2.2.1; have h2 := R0.out.2.2.1.prev L.length (Nat.le_refl _); omega
        have nxt := R0.out.2.2.1.step x m hx256 hxL (by omega) xs (by have := HL.out.2.2.1; omega)
        rw [← R0.out.2.2.2.1, ← hq] at nxt
        have NX := Lib.hid nxt
        clear us hxL nxt hq et
        go_upto_region 16 with fail
        clear hu hf hcm
        generalize wr.setCell ⟨gu, x, none⟩ (.bool true) = wu at *
        go_wp2_with fail
        refine (write_hd U1.out.1.1 x x 1 1 1 1 m 0 rfl hx256 rfl rfl (by decide) (by omega) (by omega) (by omega)).mono ?_
        rintro e w4 ⟨rfl, A4, k4⟩
        have st := (Stands.written f x 1 1 m 0 (by decide) (by omega) (by omega)).isH
        have M4 := U1.out.1.2.kept k4
        generalize M.wr f (x * 4096) (M.hd 1 1 m 0) = f4 at *
        generalize Wid O wu w4 = O4 at *
        have H4 := Lib.hid (And.intro A4 (And.intro M4 st))
        clear A4 k4 M4 st
        go_wp2_with fail
        refine (link_hd H4.out.1 x x N rfl hx256 H4.out.2.2 hNb (by omega)).mono ?_
        rintro e w5 ⟨rfl, A5, k5⟩
        have M5 := H4.out.2.1.kept k5
        generalize M.wr f4 (x * 4096 + 24) (M.enc 8 N) = f5 at *
        generalize Wid O4 w4 w5 = O5 at *
        have H5 := Lib.hid (And.intro A5 M5)
        clear A5 k5 M5 H4
        have lb : ∀ ad', 0 < xs.length → a1 = some ad' → ad'.block < w.heap.size := fun ad' h0 e => lies_low HL.out.2.2.2 h0 ad' e
        have l5 := (HL.out.2.2.2.below B1.out).below H5.out.1.bel
        have ST := Lib.hid (at_store H5.out.1 q len1 cap1 a1 xs HL.out.2.2.1 l5 hcap (fun h0 ad' e hO => by have := lb ad' h0 e; have := H5.out.1.old _ hO; have := B1.out.size; omega) (by omega) (by omega) (by omega))
        clear lb l5
        go_wp2_with fail
        refine ST.out.mono ?_
        rintro e w6 ⟨rfl, A6, k6⟩
        rw [HQ.out.2] at A6
        have M6 := H5.out.2.kept k6
        generalize M.wr f5 q xs = f6 at *
        generalize Wid O5 w5 w6 = O6 at *
        have b7 := below_new w6 (.cells #[.int .i64 (x : Int)] 3)
        have n7 : (w6.alloc (.cells #[.int .i64 (x : Int)] 3)).cell? ⟨w6.heap.size, 0, none⟩ = some (.int .i64 (x : Int)) := World.cell?_alloc_mark _ _ _ _ _
        have A7 := A6.same b7
        have M7 := M6.below b7
        have hw1 : w1.heap.size ≤ (w6.alloc (.cells #[.int .i64 (x : Int)] 3)).heap.size := A7.bel.size
        have OWN := Lib.hid M7.row
        rw [← R0.out.2.2.2.2.1] at OWN
        have H7 := Lib.hid (And.intro A7 M7)
        have NEW := Lib.hid (show ∀ j u, (ints [x])[j]? = some u → (w6.alloc (.cells #[.int .i64 (x : Int)] 3)).cell? ((⟨w6.heap.size, 0, none⟩ : Addr).add j) = some u from fun j u hu => by
          have hj : j = 0 := by
            have := (List.getElem?_eq_some_iff.1 hu).1
            simp [ints] at this
            omega
          subst hj
          rw [add_zero', n7]
          simpa [ints] using hu)
        have HW := Lib.hid hw1
        have PU := Lib.hid (fun (g cap : Nat) (w8 : World) hrow hgr hat => M7.push A7 R0.out.2.2.2.2.1 hrow hgr hat (g := g) (cap := cap) (w2 := w8))
        clear b7 n7 A7 M7 A6 k6 M6 H5 ST hw1 hq2 hqb
        go_wp2_with (at_builtin; refine wpList_append_lies _ rfl _ _ 63 rfl w1.heap.size 3 i0 (.int .i64 0) 1 8 Try.underlying63 HI.out.1 HI.out.2.1 HI.out.2.2.1 HI.out.2.2.2 rfl (by decide) (.slice Av ll cv) ll (ints L) rfl OWN.out ⟨w6.heap.size, 0, none⟩ 1 1 (ints [x]) rfl rfl NEW.out (by intro u hu; simp [ints] at hu; subst hu; rfl) (by omega) (by unfold maxLen; omega) (by omega) HW.out _ rfl ?_; intro g8 c8 w8 hrow hgr hat hlt8; (have P8 := Lib.hid (PU.out _ _ _ hrow hgr hat)); clear hrow hgr hat hlt8)
        go_roundw
        case rel => exact ⟨m + 1, by omega, by go_num, L ++ [x], f6, O6, _, x + 1, by go_num, by rw [List.length_append]; exact (prevN_last L x).symm, P8.out.1, P8.out.2, NX.out, by have := R0.out.2.2.2.2.2.1; omega, by have := R0.out.2.2.2.2; simp; omega⟩
        case measure => simp [intOf]; omega
    · have e : m = len0 := by omega
      subst e
      clear hlt hm
      have HK := Lib.hid (show ∀ u, u < ll → ∃ g cap, (Value.slice Av ll cv) = .slice (some ⟨g, 0, none⟩) ll cap ∧ ∀ W, Kept wr W O → W.cell? ⟨g, u, none⟩ = some (.int .i64 (L.getD u 0 : Nat)) from fun u hu => by
        have hr := R0.out.2.1.row
        rw [← R0.out.2.2.2.2.1] at hr
        obtain ⟨g, cap, hv, hc⟩ := row_cell hr u hu
        have hul : u < L.length := by have := R0.out.2.2.2.2.1; omega
        have hb : (Value.slice Av ll cv).ownBlock = some g := by rw [hv]; rfl
        refine ⟨g, cap, hv, fun W hW => ?_⟩
        have e : (ints L)[u]? = some (.int .i64 (L.getD u 0 : Nat)) := by simp [ints, List.getD, hul]
        exact hW.cell_some (hc.trans e) (R0.out.2.1.nv g hb).1)
      go_wp2_with fail
      go_loopw [9, 12, 13, 14] (fun nx i h e wx => ∃ t : Nat, t ≤ ll ∧ ∃ (ii : Int) (N T' : Nat), i = .int .i64 ii ∧ ii + 1 = t ∧ nx = .int .u64 (N : Int) ∧ N = prevN L t ∧ At w1 wx s 256 T' f O ∧ T' ≤ 200 - t ∧ Kept wr wx O) (fun nx i h e _ => ((intOf i) + 1).toNat)
      case atStart => exact ⟨ll, Nat.le_refl _, _, N, T, rfl, by omega, rfl, by have := R0.out.2.2.2.1; have := R0.out.2.2.2.2.1; subst this; exact R0.out.2.2.2.1, R0.out.1, by omega, Kept.refl _ _⟩
      case round =>
        obtain ⟨t, htl, ii, N', T', rfl, hii, rfl, hN', at1, hT', k1⟩ := hrel
        have R1 := Lib.hid (And.intro at1 (And.intro hN' k1))
        clear at1 hN' k1
        cases t with
        | zero =>
          have e : ii = -1 := by omega
          subst e
          have e : N' = 0 := by have := R1.out.2.1; simpa [prevN] using this
          subst e
          go_wp2_with fail
          go_ret
          exact ⟨rfl, below_call B1.out R1.out.1.bel⟩
        | succ u =>
          have e : ii = (u : Int) := by omega
          subst e
          obtain ⟨g, cap, hvv, hcell⟩ := HK.out u (by omega)
          injection hvv with hA _ hcp
          subst hA
          subst hcp
          have cu := hcell _ R1.out.2.2
          have hul : u < L.length := by have := R0.out.2.2.2.2.1; omega
          obtain ⟨y, hy⟩ : ∃ y, y = L.getD u 0 := ⟨_, rfl⟩
          have hyL : L[u] = y := by rw [hy]; simp [List.getD, hul]
          have stt := R0.out.2.2.1 u hul
          rw [hyL] at stt
          obtain ⟨hy256, oo, st⟩ := stt
          have eN : N' = y + 1 := by rw [R1.out.2.1, prevN_get L u hul, hyL]
          subst eN
          rw [← hy] at cu
          obtain ⟨N2, hN2⟩ : ∃ N2, N2 = prevN L u := ⟨_, rfl⟩
          rw [← hN2] at st
          have HS := Lib.hid (And.intro st hN2)
          clear hy hyL st hN2 hcell hii hul
          go_wp2_with fail
          refine (read_hd R1.out.1 y y 1 1 oo N2 rfl hy256 HS.out.1 (by omega)).mono ?_
          rintro e w4 ⟨rfl, A4, k4⟩
          have x5 := Box4.new w4 33 (.int .i64 1) (.int .i64 1) (.int .u64 (oo : Int)) (.int .u64 (N2 : Int))
          have b5 := below_new w4 (.cells #[.int .i64 1, .int .i64 1, .int .u64 (oo : Int), .int .u64 (N2 : Int)] 33)
          have H5 := Lib.hid (And.intro (A4.same b5) ((R1.out.2.2.trans k4 (fun _ _ e => e)).trans (Kept.of_below b5 O) (fun _ _ e => e)))
          clear A4 k4 b5 cu
          go_upto_region 26 with fail
          generalize w4.alloc (.cells #[.int .i64 1, .int .i64 1, .int .u64 (oo : Int), .int .u64 (N2 : Int)] 33) = w5 at *
          generalize w4.heap.size = g13 at *
          have c1 := x5.c1
          have c3 := x5.c3
          clear x5
          go_wp2_with fail
          go_roundw
          case rel => exact ⟨u, by omega, _, N2, _, rfl, by omega, rfl, HS.out.2, H5.out.1, by omega, H5.out.2⟩
          case measure => simp [intOf]

/-! The row's step. -/
set_option maxRecDepth 100000 in
theorem lifted (os : Os) (started : os.Started) (H : Type) (enc : TypeId × Value → H) :
    ReturnsInHanded {} Try.checked os 7 .any (Rows.headerLinksSpec.pre6 enc Try.prog Try.f7 Rows.headerLinksRow.domain false) (Rows.headerLinksSpec.post enc Try.prog Try.f7 false true false false) := by
  refine returnsInHanded_of_change (C := Try.checked) own started (by kernel_rfl) Try.func7
    (ChangeSpec.witness6 (enc := enc) (C := Try.checked) false ⟨#[], #[.slice none 0 0, .slice none 0 0], []⟩ 8 (by kernel_rfl) (by kernel_rfl) (by kernel_rfl) (by kernel_rfl)) ?_
  intro W base args ds gs before hval0 hW hcnd _
  have hval : ∀ (j : Nat) t v, Try.f7.params[j]? = some t → args[j]? = some v → Value.okWide Try.prog W .any base t v := hval0
  have hW' := hW
  obtain ⟨p, q, hA0, hV, rfl, hfz, hnd⟩ := hW
  have hA : DataW.TrodAll enc Try.prog W 0 (fun _ => true) true Try.f7.params.toList args.toList ds p := hA0
  rw [Try.params7] at hA hval
  obtain ⟨v0, vs0, d0, ds0, p0, q0, hargs, rfl, rfl, h0, r0⟩ := trodAll_cons hA
  obtain ⟨v1, vs1, d1, ds1, p1, q1, rfl, rfl, rfl, h1, r1⟩ := trodAll_cons r0
  obtain ⟨rfl, rfl, rfl⟩ := trodAll_nil r1
  obtain rfl : args = #[v0, v1] := by cases args; simp_all
  obtain ⟨rfl, rfl⟩ := trodVars_none hV
  obtain ⟨a0, len0, cap0, rfl⟩ := okWide_slice Try.underlying34 (hval 0 34 v0 rfl rfl)
  have k0 := h0
  have lt0 : ∀ x ∈ p0, x.block < W.heap.size := by obtain ⟨m, hm⟩ := k0; exact DataW.trod_lt m _ _ _ hm
  obtain ⟨z0, w0⟩ : ∃ zs, IsRow .u8 W a0 len0 cap0 zs := by
    obtain ⟨fuel, hf⟩ := h0
    rcases open_ints Try.underlying34 Try.underlying5 (by kernel_rfl) hf with ⟨hcs, _⟩ | ⟨x, l, c, zs, hcs, _, hl, hm, hz, _, hcell, hwz⟩
    · simp [Value.cells] at hcs
      obtain ⟨rfl, rfl, rfl⟩ := hcs
      exact ⟨[], .inl ⟨rfl, rfl, rfl, rfl⟩⟩
    · simp [Value.cells] at hcs
      obtain ⟨rfl, rfl, rfl⟩ := hcs
      exact ⟨zs, .inr ⟨_, rfl, hl, hm, by simpa using hz, hcell, hwz⟩⟩
  obtain ⟨a1, len1, cap1, rfl⟩ := okWide_slice Try.underlying34 (hval 1 34 v1 rfl rfl)
  have k1 := h1
  have lt1 : ∀ x ∈ p1, x.block < W.heap.size := by obtain ⟨m, hm⟩ := k1; exact DataW.trod_lt m _ _ _ hm
  obtain ⟨z1, w1⟩ : ∃ zs, IsRow .u8 W a1 len1 cap1 zs := by
    obtain ⟨fuel, hf⟩ := h1
    rcases open_ints Try.underlying34 Try.underlying5 (by kernel_rfl) hf with ⟨hcs, _⟩ | ⟨x, l, c, zs, hcs, _, hl, hm, hz, _, hcell, hwz⟩
    · simp [Value.cells] at hcs
      obtain ⟨rfl, rfl, rfl⟩ := hcs
      exact ⟨[], .inl ⟨rfl, rfl, rfl, rfl⟩⟩
    · simp [Value.cells] at hcs
      obtain ⟨rfl, rfl, rfl⟩ := hcs
      exact ⟨zs, .inr ⟨_, rfl, hl, hm, by simpa using hz, hcell, hwz⟩⟩
  clear hA0 hval0
  refine (walk a0 len0 cap0 z0 a1 len1 cap1 z1 W w0 w1).mono fun e W' ⟨he, bel⟩ => ?_
  subst he
  exact ⟨_, rfl, _, _, _, [], _, [], hW', trodAll_mk1 (shut_bool Try.underlying4 _), (trodAll_cons_mk (Below.trod laidOut (by kernel_rfl) (of_decide_eq_true (by kernel_rfl)) k0 bel lt0) (trodAll_cons_mk (Below.trod laidOut (by kernel_rfl) (of_decide_eq_true (by kernel_rfl)) k1 bel lt1) trodAll_mk0)), rfl, bel.frame _, fun h => by cases h⟩

theorem over : Rows.headerLinksRow.holds Try.pinned (OpenSpec.ofChange Rows.headerLinksSpec) :=
  OpenClaim.holds_of_wide 7 Try.f7 rfl rfl rfl rfl rfl rfl rfl ⟨rfl, rfl, rfl, rfl, rfl⟩ rfl rfl rfl rfl rfl (by kernel_rfl) Try.func7 (by kernel_rfl)
    (of_decide_eq_true (by kernel_rfl)) (by unfold Func.isWrapper; first | (rw [if_pos (by decide +kernel)]; kernel_rfl) | (rw [if_neg (by decide +kernel)]; exact ⟨rfl, rfl⟩))
    (fun os started H enc _ => lifted os started H enc)

/-- The statement. -/
theorem proved : Rows.HeaderLinksSaid := over
#print axioms proved
end Go.Proofs.Ytacognejefeboaa.headerLinks
