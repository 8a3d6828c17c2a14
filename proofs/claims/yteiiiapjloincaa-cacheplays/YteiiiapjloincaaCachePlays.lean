/-
  CachePlays is true whatever the input: whatever is pushed, popped and cleared, each answer, and all that is kept, are the document's, step by step; no conditions.
-/
import Derived.Test.YteiiiapjloincaaRows
import Derived.WalkKit
import Derived.ProofKit
import Derived.OpenShut
import Derived.ShutString
import Derived.ChangeOld
import Derived.Below
import Derived.Test.YteiiiapjloincaaPl9
namespace Go.Proofs.Yteiiiapjloincaa.cachePlays
open Go.ChangeShapes Go.WideShapes Go.ChangeAt Go.RowKit
set_option linter.unusedVariables false

theorem own : ownKnob Try.prog.godebug = none := by kernel_rfl

/-! The walk. -/
set_option maxRecDepth 20000 in
set_option maxHeartbeats 40000000 in
theorem walk (a0 : Option Addr) (len0 cap0 : Nat) (w : World) (w0 : IsActs w a0 len0) :
    Calls Try.prog 3 #[.slice a0 len0 cap0] w fun e w' => e = .returned (.bool true) ∧ Below w.heap.size w w' := by
  obtain ⟨hl0, acts, hla, ha⟩ := w0
  have HA := Lib.hid (And.intro hla ha)
  clear hla ha
  go_enter Try.func3, Try.ntmps3
  go_wp2_with fail
  refine (awake_any _).mono ?_
  rintro e w1 ⟨rfl, b1⟩
  have B1 := Lib.hid b1
  clear b1
  by_cases h80 : 80 < len0
  · have d1 : decide ((80 : Int) < (len0 : Int)) = true := by simp; omega
    clear h80
    go_wp2_with fail
    go_ret
    exact ⟨rfl, B1.out⟩
  have d1 : decide ((80 : Int) < (len0 : Int)) = false := by simp; omega
  go_wp2_with fail
  refine (k_new B1.out).mono ?_
  rintro e w2 ⟨g, rfl, k2, b2, hg2⟩
  have ONE := Lib.hid (show (List.replicate 56 (Value.int .i64 0)).toArray.all (·.oneCell') = true by kernel_rfl)
  have NW := Lib.hid (IsC.new w2)
  have zm := zero_made w2
  have hlt2 := k2.has.lt
  have PI := Lib.hid (show Pl w ((w2.alloc (.cells (List.replicate 56 (Value.int .i64 0)).toArray 31)).setRow w2.heap.size (List.replicate 56 (Value.int .i64 0)).toArray) g w2.heap.size none 0 0 [] from
    ⟨k2.below zm.2, ⟨zm.1, below_call k2.bel zm.2, k2.bel.size⟩, by omega, Runs.nil, rfl, Nat.le_refl _, Off.none _⟩)
  clear k2 b2 hg2 zm hlt2
  go_upto_region 8 with (refine wpList_store_row rfl 31 (Operand.tmp 5) (Operand.tmp 27) rfl w2.heap.size (List.replicate 56 (Value.int .i64 0)).toArray rfl rfl _ _ NW.out.blk (by kernel_rfl) (by simp [cacl_length]) ONE.out ?_)
  obtain ⟨w3, hw3⟩ : ∃ w3, w3 = (w2.alloc (.cells #[Value.int .i64 0, Value.int .i64 0, Value.int .i64 0, Value.int .i64 0, Value.int .i64 0, Value.int .i64 0, Value.int .i64 0, Value.int .i64 0, Value.int .i64 0, Value.int .i64 0, Value.int .i64 0, Value.int .i64 0, Value.int .i64 0, Value.int .i64 0, Value.int .i64 0, Value.int .i64 0, Value.int .i64 0, Value.int .i64 0, Value.int .i64 0, Value.int .i64 0, Value.int .i64 0, Value.int .i64 0, Value.int .i64 0, Value.int .i64 0, Value.int .i64 0, Value.int .i64 0, Value.int .i64 0, Value.int .i64 0, Value.int .i64 0, Value.int .i64 0, Value.int .i64 0, Value.int .i64 0, Value.int .i64 0, Value.int .i64 0, Value.int .i64 0, Value.int .i64 0, Value.int .i64 0, Value.int .i64 0, Value.int .i64 0, Value.int .i64 0, Value.int .i64 0, Value.int .i64 0, Value.int .i64 0, Value.int .i64 0, Value.int .i64 0, Value.int .i64 0, Value.int .i64 0, Value.int .i64 0, Value.int .i64 0, Value.int .i64 0, Value.int .i64 0, Value.int .i64 0, Value.int .i64 0, Value.int .i64 0, Value.int .i64 0, Value.int .i64 0] 31)).setRow w2.heap.size (List.replicate 56 (Value.int .i64 0)).toArray := ⟨_, rfl⟩
  rw [← hw3]
  have PJ := Lib.hid (show Pl w w3 g w2.heap.size none 0 0 [] by rw [hw3]; exact PI.out)
  obtain ⟨gz, hgz⟩ : ∃ gz, gz = w2.heap.size := ⟨_, rfl⟩
  rw [← hgz] at PJ
  rw [← hgz]
  clear PI NW ONE hw3 hgz
  go_wp2_with fail
  go_loopw [7, 8] (fun v i wr => ∃ (m : Nat) (A : Option Addr) (z cp : Nat) (l : List M.R), m ≤ len0 ∧ z ≤ m ∧ i = .int .i64 (m : Int) ∧ v = .slice A z cp ∧ Pl w wr g gz A z cp l) (fun _ i _ => len0 - (intOf i).toNat)
  case atStart => exact ⟨0, _, _, _, _, by omega, by omega, rfl, rfl, PJ.out⟩
  case round =>
    clear PJ
    obtain ⟨m, A, z, cp, l, hm, hzm, rfl, rfl, hp⟩ := hrel
    have P0 := Lib.hid hp
    clear hp
    have hz80 : z ≤ 80 := by omega
    by_cases hlt : m < len0
    · have hkl : m < acts.length := by have := HA.out.1; omega
      obtain ⟨bl, o, rfl, hc⟩ := HA.out.2 (by omega)
      have hkk := (hc m hkl).keep P0.out.kc.bel
      obtain ⟨d, hd⟩ : ∃ d, d = acts[m].d := ⟨_, rfl⟩
      obtain ⟨c, hce⟩ : ∃ c, c = acts[m].c := ⟨_, rfl⟩
      obtain ⟨p, hpe⟩ : ∃ p, p = acts[m].p := ⟨_, rfl⟩
      have a0 := hkk.c0
      have a1 := hkk.c1
      have a2 := hkk.c2
      have hd8 := hkk.d8
      rw [← hd] at a0 hd8
      rw [← hce] at a1
      rw [← hpe] at a2
      clear hc hkk hd hce hpe hkl
      have va := Va.new wr d c p 34
      have ba : Below wr.heap.size wr (wr.alloc (.cells #[.int .u8 (d : Int), .int .i64 c, .int .i64 p] 34)) := (Below.refl _ _).alloc (Nat.le_refl _) _
      have hgv : g < wr.heap.size := P0.out.kc.has.lt
      have PA := Lib.hid (P0.out.below ba)
      have VA := Lib.hid va
      obtain ⟨vb, hvb⟩ : ∃ vb, vb = wr.heap.size := ⟨_, rfl⟩
      have HV := Lib.hid (show vb ≠ g by omega)
      clear va ba hgv P0
      by_cases hd0 : d = 0
      · subst hd0
        go_upto_region 14 with fail
        clear a0 a1 a2
        obtain ⟨w4, hw4⟩ : ∃ w4, w4 = wr.alloc (.cells #[.int .u8 (0 : Int), .int .i64 c, .int .i64 p] 34) := ⟨_, rfl⟩
        rw [← hw4, ← hvb]
        have P1 := Lib.hid (show Pl w w4 g gz A z cp l by rw [hw4]; exact PA.out)
        have V1 := Lib.hid (show Va w4 vb 0 c p by rw [hw4, hvb]; exact VA.out)
        have c0 := V1.out.c0
        have c1 := V1.out.c1
        have c2 := V1.out.c2
        clear hw4 hvb PA VA
        go_wp2_with fail
        refine (rfpush_any _ A l z cp P1.out.zz P1.out.rn (by omega) P1.out.zc P1.out.good c p).mono ?_
        rintro e w5 ⟨A1, z1, cp1, rfl, hz1, hc1, hr1, hb1, ho1⟩
        have hzl : z1 ≤ m + 1 := by have := M.pushL_length l c p; have := P1.out.zz; omega
        have v5 := V1.out.below hb1
        have k5 := P1.out.kc.below hb1
        have N5 := Lib.hid (show ∀ w6, Kp w w6 g (M.sel (M.pushL l c p)) → w5.grownBy w6 (some g) → Pl w w6 g gz A1 z1 cp1 (M.pushL l c p) from fun w6 hk hg => P1.out.next hb1 hz1 hc1 hr1 ho1 hk hg)
        have V5 := Lib.hid v5
        have K5 := Lib.hid k5
        have c1 := v5.c1
        have c2 := v5.c2
        obtain ⟨b, hb⟩ : ∃ b, M.pushB (M.sel l) c p = b := ⟨_, rfl⟩
        rw [hb]
        have HB := Lib.hid hb
        clear v5 k5 hz1 hc1 hr1 hb1 ho1 hb V1 P1
        go_wp2_with fail
        refine (k_push K5.out c p).mono ?_
        rintro e w6 ⟨rfl, k6, g6⟩
        rw [HB.out]
        rw [← M.sel_pushL] at k6
        have P1 := Lib.hid (N5.out w6 k6 g6)
        have v6 := V5.out.grown g6 HV.out
        clear c1 c2
        have c1 := v6.c1
        have c2 := v6.c2
        clear v6 k6 g6 N5 V5 K5
        go_wp2_with fail
        refine (capush_nil _ c p).mono ?_
        rintro e w7 ⟨rfl, rfl⟩
        clear c1 c2
        obtain ⟨l1, hl1⟩ : ∃ l1, M.pushL l c p = l1 := ⟨_, rfl⟩
        rw [hl1] at P1
        clear hl1 HB HV
        go_wp2_with fail
        go_loopw [19] (fun k wr => ∃ (j : Nat) (s : Int), j ≤ 10 ∧ s = (j : Int) - 1 ∧ k = .int .i64 s ∧ Pl w wr g gz A1 z1 cp1 l1) (fun k _ => (9 - intOf k).toNat)
        case atStart => exact ⟨0, -1, by omega, by omega, rfl, P1.out⟩
        case round =>
          clear P1
          obtain ⟨j, s, hj, hs, rfl, hp⟩ := hrel
          have P2 := Lib.hid hp
          have HS9 := Lib.hid hs
          have s1 : -1 ≤ s := by omega
          have s2 : s ≤ 9 := by omega
          clear hp hs
          obtain ⟨x, hx⟩ : ∃ x, (M.sel l1 s).length = x := ⟨_, rfl⟩
          have HX := Lib.hid hx
          clear hx
          by_cases hlj : s < 9
          · go_wp2_with fail
            refine (k_len P2.out.kc s).mono ?_
            rintro e w9 ⟨rfl, rfl⟩
            rw [HX.out]
            go_wp2_with fail
            refine (rflen_any _ A1 l1 z1 cp1 P2.out.zz P2.out.rn (by omega) s).mono ?_
            rintro e w9 ⟨rfl, rfl⟩
            rw [HX.out]
            go_wp2_with fail
            go_roundw
            case rel => exact ⟨j + 1, s + 1, by have := HS9.out; omega, by have := HS9.out; omega, by go_num, P2.out⟩
            case measure => simp [intOf]; omega
          · clear HX
            obtain ⟨y, hy⟩ : ∃ y, M.sum (M.sel l1) = y := ⟨_, rfl⟩
            have HY := Lib.hid hy
            clear hy
            go_wp2_with fail
            refine (k_pages P2.out.kc).mono ?_
            rintro e w9 ⟨rfl, rfl⟩
            rw [HY.out]
            go_wp2_with fail
            refine (rfpages_any _ A1 l1 z1 cp1 P2.out.zz P2.out.rn (by omega) P2.out.good).mono ?_
            rintro e w9 ⟨rfl, rfl⟩
            rw [HY.out]
            go_wp2_with fail
            refine (k_all P2.out.kc).mono ?_
            rintro e w10 ⟨g10, z10, rfl, hz10, h28, hr10, _, hb10⟩
            have P3 := Lib.hid (P2.out.below hb10)
            have R3 := Lib.hid (And.intro hz10 hr10)
            clear hz10 hr10 hb10 P2
            go_wp2_with fail
            refine (rfall_any _ A1 l1 z1 cp1 P3.out.zz P3.out.rn (by omega) P3.out.good).mono ?_
            rintro e w11 ⟨A11, z11, c11, rfl, hz11, hr11, hb11⟩
            have P4 := Lib.hid (P3.out.below hb11)
            have SM := Lib.hid (same_got w11 (some ⟨g10, 0, none⟩) A11 _ z10 28 z11 c11 R3.out.1 hz11 (R3.out.2.below hb11) hr11 (by omega))
            clear hz11 hr11 hb11 P3 R3
            go_wp2_with fail
            refine SM.out.mono ?_
            rintro e w12 ⟨rfl, b12⟩
            have P5 := Lib.hid (P4.out.below b12)
            clear b12 P4 SM
            go_wp2_with fail
            go_roundw
            case rel => exact ⟨m + 1, _, _, _, _, by omega, by omega, by go_num, rfl, P5.out⟩
            case measure => simp [intOf]; omega
      · by_cases hd1 : d = 1
        · subst hd1
          clear hd0
          go_upto_region 14 with fail
          clear a0 a1 a2
          obtain ⟨w4, hw4⟩ : ∃ w4, w4 = wr.alloc (.cells #[.int .u8 (1 : Int), .int .i64 c, .int .i64 p] 34) := ⟨_, rfl⟩
          rw [← hw4, ← hvb]
          have P1 := Lib.hid (show Pl w w4 g gz A z cp l by rw [hw4]; exact PA.out)
          have V1 := Lib.hid (show Va w4 vb 1 c p by rw [hw4, hvb]; exact VA.out)
          have c0 := V1.out.c0
          have c1 := V1.out.c1
          have c2 := V1.out.c2
          clear hw4 hvb PA VA
          go_wp2_with fail
          refine (rfpop_any _ A l z cp P1.out.zz P1.out.rn (by omega) P1.out.zc c).mono ?_
          rintro e w5 ⟨l1, ⟨A1, z1, cp1, rfl, hz1, hc1, hr1, hb1, ho1⟩, hsel, hll⟩
          have hzl : z1 ≤ m + 1 := by have := P1.out.zz; omega
          have v5 := V1.out.below hb1
          have k5 := P1.out.kc.below hb1
          have N5 := Lib.hid (show ∀ w6, Kp w w6 g (M.sel l1) → w5.grownBy w6 (some g) → Pl w w6 g gz A1 z1 cp1 l1 from fun w6 hk hg => P1.out.next hb1 hz1 hc1 hr1 ho1 hk hg)
          have V5 := Lib.hid v5
          have K5 := Lib.hid k5
          have HS := Lib.hid hsel
          have c1 := v5.c1
          obtain ⟨b, hb⟩ : ∃ b, M.popB (M.sel l) c = b := ⟨_, rfl⟩
          obtain ⟨u, hu⟩ : ∃ u, M.popV (M.sel l) c = u := ⟨_, rfl⟩
          rw [hb, hu]
          have HB := Lib.hid (And.intro hb hu)
          clear v5 k5 hz1 hc1 hr1 hb1 ho1 hb hu V1 P1 hsel hll
          go_wp2_with fail
          refine (k_pop K5.out c).mono ?_
          rintro e w6 ⟨rfl, k6, g6⟩
          rw [HB.out.1, HB.out.2]
          rw [← HS.out] at k6
          have P1 := Lib.hid (N5.out w6 k6 g6)
          have v6 := V5.out.grown g6 HV.out
          clear c1
          have c1 := v6.c1
          clear v6 k6 g6 N5 V5 K5 HS
          go_wp2_with fail
          refine (capop_nil _ c).mono ?_
          rintro e w7 ⟨rfl, rfl⟩
          clear c1 HB HV
          go_wp2_with fail
          go_loopw [19] (fun k wr => ∃ (j : Nat) (s : Int), j ≤ 10 ∧ s = (j : Int) - 1 ∧ k = .int .i64 s ∧ Pl w wr g gz A1 z1 cp1 l1) (fun k _ => (9 - intOf k).toNat)
          case atStart => exact ⟨0, -1, by omega, by omega, rfl, P1.out⟩
          case round =>
            clear P1
            obtain ⟨j, s, hj, hs, rfl, hp⟩ := hrel
            have P2 := Lib.hid hp
            have HS9 := Lib.hid hs
            have s1 : -1 ≤ s := by omega
            have s2 : s ≤ 9 := by omega
            clear hp hs
            obtain ⟨x, hx⟩ : ∃ x, (M.sel l1 s).length = x := ⟨_, rfl⟩
            have HX := Lib.hid hx
            clear hx
            by_cases hlj : s < 9
            · go_wp2_with fail
              refine (k_len P2.out.kc s).mono ?_
              rintro e w9 ⟨rfl, rfl⟩
              rw [HX.out]
              go_wp2_with fail
              refine (rflen_any _ A1 l1 z1 cp1 P2.out.zz P2.out.rn (by omega) s).mono ?_
              rintro e w9 ⟨rfl, rfl⟩
              rw [HX.out]
              go_wp2_with fail
              go_roundw
              case rel => exact ⟨j + 1, s + 1, by have := HS9.out; omega, by have := HS9.out; omega, by go_num, P2.out⟩
              case measure => simp [intOf]; omega
            · clear HX
              obtain ⟨y, hy⟩ : ∃ y, M.sum (M.sel l1) = y := ⟨_, rfl⟩
              have HY := Lib.hid hy
              clear hy
              go_wp2_with fail
              refine (k_pages P2.out.kc).mono ?_
              rintro e w9 ⟨rfl, rfl⟩
              rw [HY.out]
              go_wp2_with fail
              refine (rfpages_any _ A1 l1 z1 cp1 P2.out.zz P2.out.rn (by omega) P2.out.good).mono ?_
              rintro e w9 ⟨rfl, rfl⟩
              rw [HY.out]
              go_wp2_with fail
              refine (k_all P2.out.kc).mono ?_
              rintro e w10 ⟨g10, z10, rfl, hz10, h28, hr10, _, hb10⟩
              have P3 := Lib.hid (P2.out.below hb10)
              have R3 := Lib.hid (And.intro hz10 hr10)
              clear hz10 hr10 hb10 P2
              go_wp2_with fail
              refine (rfall_any _ A1 l1 z1 cp1 P3.out.zz P3.out.rn (by omega) P3.out.good).mono ?_
              rintro e w11 ⟨A11, z11, c11, rfl, hz11, hr11, hb11⟩
              have P4 := Lib.hid (P3.out.below hb11)
              have SM := Lib.hid (same_got w11 (some ⟨g10, 0, none⟩) A11 _ z10 28 z11 c11 R3.out.1 hz11 (R3.out.2.below hb11) hr11 (by omega))
              clear hz11 hr11 hb11 P3 R3
              go_wp2_with fail
              refine SM.out.mono ?_
              rintro e w12 ⟨rfl, b12⟩
              have P5 := Lib.hid (P4.out.below b12)
              clear b12 P4 SM
              go_wp2_with fail
              go_roundw
              case rel => exact ⟨m + 1, _, _, _, _, by omega, by omega, by go_num, rfl, P5.out⟩
              case measure => simp [intOf]; omega
        · have z0 : ((d : Int) == 0) = false := by simp; omega
          have z1' : ((d : Int) == 1) = false := by simp; omega
          clear hd0 hd1
          go_upto_region 14 with fail
          clear a0 a1 a2
          obtain ⟨w4, hw4⟩ : ∃ w4, w4 = wr.alloc (.cells #[.int .u8 ((d : Nat) : Int), .int .i64 c, .int .i64 p] 34) := ⟨_, rfl⟩
          rw [← hw4, ← hvb]
          have P1 := Lib.hid (show Pl w w4 g gz A z cp l by rw [hw4]; exact PA.out)
          have V1 := Lib.hid (show Va w4 vb d c p by rw [hw4, hvb]; exact VA.out)
          have c0 := V1.out.c0
          have c1 := V1.out.c1
          have c2 := V1.out.c2
          clear hw4 hvb PA VA
          go_wp2_with fail
          refine (k_clear P1.out.kc).mono ?_
          rintro e w6 ⟨rfl, k6, g6⟩
          have PX := Lib.hid (show Pl w w6 g gz none 0 0 [] from ⟨k6, P1.out.kz.other P1.out.ne.symm P1.out.kc.old g6, P1.out.ne, Runs.nil, rfl, Nat.le_refl _, Off.none _⟩)
          clear P1
          have P1 := Lib.hid PX.out
          clear k6 g6 V1 PX
          go_wp2_with fail
          refine (caclear_nil _).mono ?_
          rintro e w7 ⟨rfl, rfl⟩
          obtain ⟨A1, hA1⟩ : ∃ A1 : Option Addr, A1 = none := ⟨_, rfl⟩
          obtain ⟨l1, hl1⟩ : ∃ l1 : List M.R, l1 = [] := ⟨_, rfl⟩
          obtain ⟨z1, hz1⟩ : ∃ z1 : Nat, z1 = 0 := ⟨_, rfl⟩
          obtain ⟨cp1, hcp1⟩ : ∃ cp1 : Nat, cp1 = 0 := ⟨_, rfl⟩
          clear z0 z1' HV
          go_wp2_with fail
          have hsl : Value.slice none 0 0 = Value.slice A1 z1 cp1 := by rw [hA1, hz1, hcp1]
          rw [hsl]
          have PY := Lib.hid (show Pl w w6 g gz A1 z1 cp1 l1 by rw [hA1, hl1, hz1, hcp1]; exact P1.out)
          clear P1
          have P1 := Lib.hid PY.out
          have hzl : z1 ≤ m + 1 := by omega
          clear hsl hA1 hl1 hz1 hcp1 PY
          go_loopw [19] (fun k wr => ∃ (j : Nat) (s : Int), j ≤ 10 ∧ s = (j : Int) - 1 ∧ k = .int .i64 s ∧ Pl w wr g gz A1 z1 cp1 l1) (fun k _ => (9 - intOf k).toNat)
          case atStart => exact ⟨0, -1, by omega, by omega, rfl, P1.out⟩
          case round =>
            clear P1
            obtain ⟨j, s, hj, hs, rfl, hp⟩ := hrel
            have P2 := Lib.hid hp
            have HS9 := Lib.hid hs
            have s1 : -1 ≤ s := by omega
            have s2 : s ≤ 9 := by omega
            clear hp hs
            obtain ⟨x, hx⟩ : ∃ x, (M.sel l1 s).length = x := ⟨_, rfl⟩
            have HX := Lib.hid hx
            clear hx
            by_cases hlj : s < 9
            · go_wp2_with fail
              refine (k_len P2.out.kc s).mono ?_
              rintro e w9 ⟨rfl, rfl⟩
              rw [HX.out]
              go_wp2_with fail
              refine (rflen_any _ A1 l1 z1 cp1 P2.out.zz P2.out.rn (by omega) s).mono ?_
              rintro e w9 ⟨rfl, rfl⟩
              rw [HX.out]
              go_wp2_with fail
              go_roundw
              case rel => exact ⟨j + 1, s + 1, by have := HS9.out; omega, by have := HS9.out; omega, by go_num, P2.out⟩
              case measure => simp [intOf]; omega
            · clear HX
              obtain ⟨y, hy⟩ : ∃ y, M.sum (M.sel l1) = y := ⟨_, rfl⟩
              have HY := Lib.hid hy
              clear hy
              go_wp2_with fail
              refine (k_pages P2.out.kc).mono ?_
              rintro e w9 ⟨rfl, rfl⟩
              rw [HY.out]
              go_wp2_with fail
              refine (rfpages_any _ A1 l1 z1 cp1 P2.out.zz P2.out.rn (by omega) P2.out.good).mono ?_
              rintro e w9 ⟨rfl, rfl⟩
              rw [HY.out]
              go_wp2_with fail
              refine (k_all P2.out.kc).mono ?_
              rintro e w10 ⟨g10, z10, rfl, hz10, h28, hr10, _, hb10⟩
              have P3 := Lib.hid (P2.out.below hb10)
              have R3 := Lib.hid (And.intro hz10 hr10)
              clear hz10 hr10 hb10 P2
              go_wp2_with fail
              refine (rfall_any _ A1 l1 z1 cp1 P3.out.zz P3.out.rn (by omega) P3.out.good).mono ?_
              rintro e w11 ⟨A11, z11, c11, rfl, hz11, hr11, hb11⟩
              have P4 := Lib.hid (P3.out.below hb11)
              have SM := Lib.hid (same_got w11 (some ⟨g10, 0, none⟩) A11 _ z10 28 z11 c11 R3.out.1 hz11 (R3.out.2.below hb11) hr11 (by omega))
              clear hz11 hr11 hb11 P3 R3
              go_wp2_with fail
              refine SM.out.mono ?_
              rintro e w12 ⟨rfl, b12⟩
              have P5 := Lib.hid (P4.out.below b12)
              clear b12 P4 SM
              go_wp2_with fail
              go_roundw
              case rel => exact ⟨m + 1, _, _, _, _, by omega, by omega, by go_num, rfl, P5.out⟩
              case measure => simp [intOf]; omega
    · go_wp2_with fail
      refine (k_all P0.out.kc).mono ?_
      rintro e w10 ⟨g10, z10, rfl, hz10, h28, hr10, _, hb10⟩
      have P3 := Lib.hid (P0.out.below hb10)
      have R3 := Lib.hid (And.intro hz10 hr10)
      clear hz10 hr10 hb10 P0
      go_wp2_with fail
      refine (rfall_any _ A l z cp P3.out.zz P3.out.rn (by omega) P3.out.good).mono ?_
      rintro e w11 ⟨A11, z11, c11, rfl, hz11, hr11, hb11⟩
      have P4 := Lib.hid (P3.out.below hb11)
      have SM := Lib.hid (same_got w11 (some ⟨g10, 0, none⟩) A11 _ z10 28 z11 c11 R3.out.1 hz11 (R3.out.2.below hb11) hr11 (by omega))
      clear hz11 hr11 hb11 P3 R3
      go_wp2_with fail
      refine SM.out.mono ?_
      rintro e w12 ⟨rfl, b12⟩
      have P5 := Lib.hid (P4.out.below b12)
      clear b12 P4 SM
      go_wp2_with fail
      refine (calen_nil _ 0).mono ?_
      rintro e w13 ⟨rfl, rfl⟩
      go_wp2_with fail
      refine (capages_nil _).mono ?_
      rintro e w13 ⟨rfl, rfl⟩
      go_wp2_with fail
      refine (caall_nil _).mono ?_
      rintro e w13 ⟨g13, z13, rfl, hz13, _, _, _, hb13⟩
      have hz0 : z13 = 0 := hz13
      subst hz0
      have P6 := Lib.hid (P5.out.below hb13)
      clear hz13 hb13 P5
      go_wp2_with fail
      refine (k_pages P6.out.kz).mono ?_
      rintro e w14 ⟨rfl, rfl⟩
      rw [M.sum_empty]
      go_wp2_with fail
      refine (k_push P6.out.kz 0 1).mono ?_
      rintro e w14 ⟨rfl, k14, _⟩
      rw [show M.pushB M.empty 0 1 = true by decide]
      have K14 := Lib.hid k14
      clear k14
      go_wp2_with fail
      refine (k_len K14.out 0).mono ?_
      rintro e w15 ⟨rfl, rfl⟩
      rw [show ((M.pushF M.empty 0 1) 0).length = 1 by decide]
      go_wp2_with fail
      go_ret
      exact ⟨rfl, K14.out.bel⟩

/-! The row's step. -/
set_option maxRecDepth 100000 in
theorem lifted (os : Os) (started : os.Started) (H : Type) (enc : TypeId × Value → H) :
    ReturnsInHanded {} Try.checked os 3 .any (Rows.cachePlaysSpec.pre6 enc Try.prog Try.f3 Rows.cachePlaysRow.domain false) (Rows.cachePlaysSpec.post enc Try.prog Try.f3 false true false false) := by
  refine returnsInHanded_of_change (C := Try.checked) own started (by kernel_rfl) Try.func3
    (ChangeSpec.witness6 (enc := enc) (C := Try.checked) false ⟨#[], #[.slice none 0 0], []⟩ 8 (by kernel_rfl) (by kernel_rfl) (by kernel_rfl) (by kernel_rfl)) ?_
  intro W base args ds gs before hval0 hW hcnd _
  have hval : ∀ (j : Nat) t v, Try.f3.params[j]? = some t → args[j]? = some v → Value.okWide Try.prog W .any base t v := hval0
  have hW' := hW
  obtain ⟨p, q, hA0, hV, rfl, hfz, hnd⟩ := hW
  have hA : DataW.TrodAll enc Try.prog W 0 (fun _ => true) true Try.f3.params.toList args.toList ds p := hA0
  rw [Try.params3] at hA hval
  obtain ⟨v0, vs0, d0, ds0, p0, q0, hargs, rfl, rfl, h0, r0⟩ := trodAll_cons hA
  obtain ⟨rfl, rfl, rfl⟩ := trodAll_nil r0
  obtain rfl : args = #[v0] := by cases args; simp_all
  obtain ⟨rfl, rfl⟩ := trodVars_none hV
  obtain ⟨a0, len0, cap0, rfl⟩ := okWide_slice Try.underlying22 (hval 0 22 v0 rfl rfl)
  have k0 := h0
  have lt0 : ∀ x ∈ p0, x.block < W.heap.size := by obtain ⟨m, hm⟩ := k0; exact DataW.trod_lt m _ _ _ hm
  have w0 : IsActs W a0 len0 := by
    obtain ⟨fuel, hf⟩ := h0
    obtain ⟨A, l, c, hcs, hw⟩ := acts_open hf
    simp [Value.cells] at hcs
    obtain ⟨rfl, rfl, rfl⟩ := hcs
    exact hw
  clear hA0 hval0
  refine (walk a0 len0 cap0 W w0).mono fun e W' ⟨he, bel⟩ => ?_
  subst he
  exact ⟨_, rfl, _, _, _, [], _, [], hW', trodAll_mk1 (shut_bool Try.underlying4 _), (trodAll_cons_mk (Below.trod laidOut (by kernel_rfl) (of_decide_eq_true (by kernel_rfl)) k0 bel lt0) trodAll_mk0), rfl, bel.frame _, fun h => by cases h⟩

theorem over : Rows.cachePlaysRow.holds Try.pinned (OpenSpec.ofChange Rows.cachePlaysSpec) :=
  OpenClaim.holds_of_wide 3 Try.f3 rfl rfl rfl rfl rfl rfl rfl ⟨rfl, rfl, rfl, rfl, rfl⟩ rfl rfl rfl rfl rfl (by kernel_rfl) Try.func3 (by kernel_rfl)
    (of_decide_eq_true (by kernel_rfl)) (by unfold Func.isWrapper; first | (rw [if_pos (by decide +kernel)]; kernel_rfl) | (rw [if_neg (by decide +kernel)]; exact ⟨rfl, rfl⟩))
    (fun os started H enc _ => lifted os started H enc)

/-- The statement. -/
theorem proved : Rows.CachePlaysSaid := over
#print axioms proved
end Go.Proofs.Yteiiiapjloincaa.cachePlays
