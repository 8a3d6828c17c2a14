/-
  SpaceApart is true whatever the input: what is done to a clone changes nothing of the space, nor does what was loaded, or what was stored; no conditions.
-/
import Derived.Test.YtdchnncoddjngaaRows
import Derived.WalkKit
import Derived.ProofKit
import Derived.OpenShut
import Derived.ShutString
import Derived.ChangeOld
import Derived.Below
import Derived.Test.YtdchnncoddjngaaLaw2
namespace Go.Proofs.Ytdchnncoddjngaa.spaceApart
open Go.ChangeShapes Go.WideShapes Go.ChangeAt Go.RowKit
set_option linter.unusedVariables false

theorem own : ownKnob Try.prog.godebug = none := by kernel_rfl

theorem own_cell {w : World} {g : Nat} {l : List UInt8} (h : Own w g l) (x : UInt8) (hx : l[0]? = some x) : w.cell? ⟨g, 0, none⟩ = some (.int .u8 (x.toNat : Int)) := by
  obtain ⟨hj, e⟩ := List.getElem?_eq_some_iff.1 hx
  rw [h.1 0 hj, e]
theorem rd_head (f : Nat → UInt8) (n : Nat) (h : 0 < n) : (M.rd f 0 n)[0]? = some (f 0) := by
  rw [List.getElem?_eq_getElem (by rw [M.rd_length]; exact h), M.rd_get]

/-! The walk. -/
set_option maxRecDepth 20000 in
set_option maxHeartbeats 2000000 in
theorem walk (a0 : Option Addr) (len0 cap0 : Nat) (a1 : Option Addr) (len1 cap1 : Nat) (a2 : Int) (a3 : Option Addr) (len3 cap3 : Nat) (z3 : List Int) (w : World) (w0 : IsActs w a0 len0) (w1 : IsActs w a1 len1) (w2 : (Lit.int .u8 a2).wf = true) (w3 : IsRow .u8 w a3 len3 cap3 z3) :
    Calls Try.prog 7 #[.slice a0 len0 cap0, .slice a1 len1 cap1, .int .u8 a2, .slice a3 len3 cap3] w fun e w' => e = .returned (.bool true) ∧ Below w.heap.size w w' := by
  obtain ⟨hlen0, ls, hls, hacts⟩ := w0
  obtain ⟨hlen1, ms, hms, hmacts⟩ := w1
  obtain ⟨p, hp, rfl⟩ := u8_nat w2
  have hbt := row_top w3
  obtain ⟨xs, hxs, hlies⟩ := row_u8 w3
  have hcap := row_u8c w3
  have HA := Lib.hid (show len0 = ls.length ∧ Acts w a0 ls ∧ len1 = ms.length ∧ Acts w a1 ms from ⟨hls, hacts, hms, hmacts⟩)
  have HX := Lib.hid (show len3 = xs.length ∧ Lies w a3 (u8s xs) ∧ len3 ≤ cap3 from ⟨hxs, hlies, hcap⟩)
  clear w2 w3 hls hacts hms hmacts hxs hlies hcap
  go_enter Try.func7, Try.ntmps7
  go_wp2_with fail
  refine (awake_any _).mono ?_
  rintro e w1 ⟨rfl, b1⟩
  have B1 := Lib.hid b1
  clear b1
  go_wp2_with fail
  refine (few_any w1 a0 ls len0 cap0 HA.out.1 (HA.out.2.1.below B1.out) hlen0).mono ?_
  rintro e w' ⟨rfl, rfl⟩
  by_cases hf : fewB ls = true
  · have hl30 := fewB_len hf
    go_wp2_with fail
    refine (few_any w1 a1 ms len1 cap1 HA.out.2.2.1 (HA.out.2.2.2.below B1.out) hlen1).mono ?_
    rintro e w' ⟨rfl, rfl⟩
    by_cases hg : fewB ms = true
    · have hm30 := fewB_len hg
      by_cases hb9 : 100 < len3
      · have d9 : decide ((100 : Int) < (len3 : Int)) = true := by simp; omega
        clear hb9
        go_wp2
        go_ret
        exact ⟨rfl, B1.out⟩
      · have d9 : decide ((100 : Int) < (len3 : Int)) = false := by simp; omega
        have hn9 : len3 ≤ 100 := by omega
        go_wp2_with fail
        refine (at_new (w0 := w) B1.out _ 3 (by decide)).mono ?_
        rintro e w2 ⟨s, O2, rfl, A2⟩
        have H2 := Lib.hid A2
        clear A2 d9 hb9
        go_wp2_with fail
        refine (at_play HA.out.1 HA.out.2.1 (by have := HA.out.1; omega) H2.out (by omega)).mono ?_
        rintro e w3 ⟨rfl, f, T, O, hT, A3, _, _⟩
        have HT := Lib.hid hT
        have H3 := Lib.hid A3
        clear A3 hT H2
        go_wp2_with fail
        refine (at_load H3.out 0 12288 (by decide) (by decide) (by have := HT.out; omega)).mono ?_
        rintro e w4 ⟨g4, rfl, A4, L4, k4, _, _⟩
        have t1 := H3.out.tl 0 12288 (by decide)
        obtain ⟨L, hL⟩ : ∃ L, L = M.rd f 0 12288 := ⟨_, rfl⟩
        rw [← hL] at L4
        have HL := Lib.hid (show L = M.rd f 0 12288 ∧ L.length = 12288 from ⟨hL, by rw [hL, M.rd_length]⟩)
        have H4 := Lib.hid A4
        have HL4 := Lib.hid L4
        have HT1 := Lib.hid t1
        clear A4 L4 k4 hL t1
        go_wp2_with fail
        refine (at_clone H4.out).mono ?_
        rintro e w5 ⟨c, Oc, rfl, C5, S5, hoc, b5⟩
        have hd5 : ∀ b, O b → ¬ Oc b := fun b hb e => by have := H4.out.sp.lt hb; have := hoc b e; omega
        have HD5 := Lib.hid hd5
        have HC5 := Lib.hid C5
        have HS5 := Lib.hid S5
        have HL5 := Lib.hid (show Loose w5 O g4 L ∧ ¬ Oc g4 from ⟨⟨HL4.out.own.below HL4.out.lt b5, HL4.out.no, Nat.lt_of_lt_of_le HL4.out.lt b5.size⟩, fun e => by have := hoc _ e; have := HL4.out.lt; omega⟩)
        clear C5 S5 hoc b5 hd5 HL4
        go_wp2_with fail
        refine (ticks_at HC5.out).mono ?_
        rintro e w' ⟨rfl, rfl⟩
        go_wp2_with fail
        refine (at_play HA.out.2.2.1 HA.out.2.2.2 (by have := HA.out.2.2.1; omega) HC5.out (by omega)).mono ?_
        rintro e w6 ⟨rfl, f6, T6, O6, hT6, C6, k6, ho6⟩
        have HT6 := Lib.hid hT6
        have HC6 := Lib.hid C6
        have HD6 := Lib.hid (show ∀ b, O b → ¬ O6 b from fun b hb e => HS5.out.wid_apart HD5.out b hb (ho6 b e))
        have HS6 := Lib.hid (HS5.out.other k6 HD5.out C6.bel)
        have HL6 := Lib.hid (show Loose w6 O g4 L ∧ ¬ O6 g4 from ⟨⟨k6.own HL5.out.1.own HL5.out.1.lt HL5.out.2, HL5.out.1.no, Nat.lt_of_lt_of_le HL5.out.1.lt k6.size⟩, fun e => (ho6 _ e).elim HL5.out.2 (fun e => by have := HL5.out.1.lt; omega)⟩)
        clear hT6 C6 k6 ho6 HL5 HS5 HC5 HD5
        have q1 := conv_at w6 a3 len3 xs cap3 HX.out.1 (HX.out.2.1.below HC6.out.bel)
        obtain ⟨cx, w7, q2, ox, bx, sx, hcx⟩ := to_bytes_cap w6 xs
        rw [← HX.out.1] at q2 hcx
        have hC7 := HC6.out.same bx
        have hS7 := HS6.out.same bx
        have hL7 : Loose w7 O g4 L ∧ ¬ O6 g4 := ⟨⟨HL6.out.1.own.below HL6.out.1.lt bx, HL6.out.1.no, Nat.lt_of_lt_of_le HL6.out.1.lt bx.size⟩, HL6.out.2⟩
        obtain ⟨gx, hgx⟩ : ∃ gx, gx = w6.heap.size := ⟨_, rfl⟩
        have HGX := Lib.hid (show w.heap.size ≤ gx by rw [hgx]; exact HC6.out.bel.size)
        rw [← hgx] at q2 ox sx
        have hx6 : ¬ O6 gx := fun e => by have := HC6.out.sp.lt e; omega
        have hxo : ¬ O gx := fun e => by have := HS6.out.sp.lt e; omega
        have hx4 : g4 ≠ gx := fun e => by have := HL6.out.1.lt; omega
        have H7 := Lib.hid (show At w w7 c 3 T6 f6 O6 ∧ At w w7 s 3 (T + M.touched 0 12288) f O ∧ Loose w7 O g4 L ∧ ¬ O6 g4 ∧ Own w7 gx xs ∧ ¬ O6 gx ∧ ¬ O gx ∧ g4 ≠ gx ∧ gx < w7.heap.size from ⟨hC7, hS7, hL7.1, hL7.2, ox, hx6, hxo, hx4, sx⟩)
        clear hC7 hS7 hL7 ox bx sx hgx hx6 hxo hx4 HC6 HS6 HL6
        go_wp2_with fail
        refine (at_store H7.out.1 p len3 cx (some ⟨gx, 0, none⟩) xs HX.out.1 H7.out.2.2.2.2.1.lies hcx (fun _ ad e hO => ?_) (by omega) (by omega) (by have := HT6.out; omega)).mono ?_
        · injection e with e
          rw [← e] at hO
          exact H7.out.2.2.2.2.2.1 hO
        rintro e w8 ⟨rfl, C8, k8⟩
        have t8 := H7.out.1.tl p len3 (by omega)
        have H8 := Lib.hid (show At w w8 c 3 (T6 + M.touched p len3) (M.wr f6 p xs) (Wid O6 w7 w8) ∧ At w w8 s 3 (T + M.touched 0 12288) f O ∧ Loose w8 O g4 L ∧ ¬ Wid O6 w7 w8 g4 ∧ Own w8 gx xs ∧ ¬ Wid O6 w7 w8 gx ∧ ¬ O gx ∧ g4 ≠ gx ∧ gx < w8.heap.size ∧ (∀ b, O b → ¬ Wid O6 w7 w8 b) ∧ M.touched p len3 ≤ 1048578 from
          ⟨C8, H7.out.2.1.other k8 HD6.out C8.bel, ⟨k8.own H7.out.2.2.1.own H7.out.2.2.1.lt H7.out.2.2.2.1, H7.out.2.2.1.no, Nat.lt_of_lt_of_le H7.out.2.2.1.lt k8.size⟩, fun e => e.elim H7.out.2.2.2.1 (fun e => by have := H7.out.2.2.1.lt; omega),
            k8.own H7.out.2.2.2.2.1 H7.out.2.2.2.2.2.2.2.2 H7.out.2.2.2.2.2.1, fun e => e.elim H7.out.2.2.2.2.2.1 (fun e => by have := H7.out.2.2.2.2.2.2.2.2; omega), H7.out.2.2.2.2.2.2.1, H7.out.2.2.2.2.2.2.2.1, Nat.lt_of_lt_of_le H7.out.2.2.2.2.2.2.2.2 k8.size, H7.out.2.1.wid_apart HD6.out, t8⟩)
        clear C8 k8 H7 t8 q1 q2
        by_cases h0 : len3 = 0
        · have d0 : decide ((0 : Int) < (len3 : Int)) = false := by simp; omega
          have i0 : ¬ ((0 : Int) < (len3 : Int)) := by omega
          clear h0
          go_wp2_with fail
          have F9 := (show At w w8 c 3 (T6 + M.touched p len3) (M.wr f6 p xs) (Wid O6 w7 w8) ∧ At w w8 s 3 (T + M.touched 0 12288) f O ∧ Loose w8 O g4 L ∧ ¬ Wid O6 w7 w8 g4 from ⟨H8.out.1, H8.out.2.1, H8.out.2.2.1, H8.out.2.2.2.1⟩)
          refine (at_load F9.1 p len3 (by omega) (by omega) (by have := HT6.out; have := H8.out.2.2.2.2.2.2.2.2.2.2; omega)).mono ?_
          rintro e w10 ⟨g10, rfl, C10, L10, k10, _, g10l⟩
          have e10 : M.rd (M.wr f6 p xs) p len3 = xs := by
            have := M.rd_wr f6 p xs
            rw [← HX.out.1] at this
            exact this
          rw [e10] at L10
          have S10 := F9.2.1.other k10 H8.out.2.2.2.2.2.2.2.2.2.1 C10.bel
          have hg10 : ¬ O g10 := fun e => by have := F9.2.1.sp.lt e; omega
          have H10 := Lib.hid (show At w w10 s 3 (T + M.touched 0 12288) f O ∧ Loose w10 O g4 L ∧ Loose w10 O g10 xs from
            ⟨S10, ⟨k10.own F9.2.2.1.own F9.2.2.1.lt F9.2.2.2, F9.2.2.1.no, Nat.lt_of_lt_of_le F9.2.2.1.lt k10.size⟩, ⟨L10.own, hg10, L10.lt⟩⟩)
          clear C10 L10 k10 e10 S10 hg10 g10l
          go_wp2_with fail
          refine (at_load H10.out.1 0 12288 (by decide) (by decide) (by have := HT.out; have := HT1.out; omega)).mono ?_
          rintro e w11 ⟨g11, rfl, S11, L11, k11, _, g11l⟩
          rw [← HL.out.1] at L11
          have L4 := H10.out.2.1.kept k11
          have LX := H10.out.2.2.kept k11
          have q1 := LX.conv len3 len3 HX.out.1
          have q2 := conv_at w11 a3 len3 xs cap3 HX.out.1 (HX.out.2.1.below S11.bel)
          have q3 := L11.conv 12288 12288 HL.out.2.symm
          have q4 := L4.conv 12288 12288 HL.out.2.symm
          have hx0 : L[0]? = some (f 0) := by rw [HL.out.1]; exact rd_head f 12288 (by decide)
          have cc := own_cell L11.own (f 0) hx0
          have cf := L11.own.2 0 (by have := HL.out.2; omega)
          have hf8 : (f 0).toNat < 256 := (f 0).toNat_lt
          have K12 : ∀ v, At w (w11.setCell ⟨g11, 0, none⟩ v) s 3 (T + M.touched 0 12288 + M.touched 0 12288) f O ∧ Loose (w11.setCell ⟨g11, 0, none⟩ v) O g4 L := fun v => by
            have kx : Kept w11 (w11.setCell ⟨g11, 0, none⟩ v) (fun b => b = g11) := (Kept.refl _ (fun b => b = g11)).setCell (p := ⟨g11, 0, none⟩) (fun _ => rfl) v
            have h4 : g4 ≠ g11 := fun e => by have := H10.out.2.1.lt; omega
            have hw11 : w.heap.size ≤ g11 := Nat.le_trans H10.out.1.bel.size g11l
            exact ⟨S11.other kx (fun b hb e => L11.no (e ▸ hb)) (S11.bel.trans (kx.below S11.bel.size (fun i e => by omega))), ⟨kx.own L4.own L4.lt h4, L4.no, Nat.lt_of_lt_of_le L4.lt kx.size⟩⟩
          have HK12 := Lib.hid K12
          have HX0 := Lib.hid hx0
          generalize hff : f 0 = x0 at *
          generalize hfx : x0.toNat = b0 at *
          clear S11 L11 k11 L4 LX K12 hx0 g11l
          go_wp2_with fail
          refine (at_load (HK12.out _).1 0 1 (by decide) (by decide) (by have := HT.out; have := HT1.out; omega)).mono ?_
          rintro e w13 ⟨g13, rfl, S13, L13, k13, _, _⟩
          have B13 := Lib.hid S13.bel
          have c13 := own_cell L13.own x0 (by rw [← hff]; exact rd_head f 1 (by decide))
          have c4 := own_cell ((HK12.out _).2.kept k13).own x0 HX0.out
          rw [hfx] at c13 c4
          clear S13 L13 k13 q1 q2 q3 q4 cc cf
          go_wp2_with fail
          go_quiet (fail)
          go_wp2
          go_ret
          exact ⟨rfl, below_drewN' B13.out _⟩
        · have d0 : decide ((0 : Int) < (len3 : Int)) = true := by simp; omega
          have i0 : (0 : Int) < (len3 : Int) := by omega
          have h0x : 0 < xs.length := by have := HX.out.1; omega
          obtain ⟨x1, hx1⟩ : ∃ x1, xs[0]? = some x1 := ⟨xs[0], List.getElem?_eq_getElem h0x⟩
          have cx1 := own_cell H8.out.2.2.2.2.1 x1 hx1
          have cx2 := H8.out.2.2.2.2.1.2 0 h0x
          have hf9 : x1.toNat < 256 := x1.toNat_lt
          generalize x1.toNat = b1 at *
          have K9 : ∀ v, At w (w8.setCell ⟨gx, 0, none⟩ v) c 3 (T6 + M.touched p len3) (M.wr f6 p xs) (Wid O6 w7 w8) ∧ At w (w8.setCell ⟨gx, 0, none⟩ v) s 3 (T + M.touched 0 12288) f O ∧ Loose (w8.setCell ⟨gx, 0, none⟩ v) O g4 L ∧ ¬ Wid O6 w7 w8 g4 := fun v => by
            have kx : Kept w8 (w8.setCell ⟨gx, 0, none⟩ v) (fun b => b = gx) := (Kept.refl _ (fun b => b = gx)).setCell (p := ⟨gx, 0, none⟩) (fun _ => rfl) v
            have hb9 : Below w.heap.size w (w8.setCell ⟨gx, 0, none⟩ v) := H8.out.1.bel.trans (kx.below H8.out.1.bel.size (fun i e => by have := HGX.out; omega))
            exact ⟨H8.out.1.other kx (fun b hb e => H8.out.2.2.2.2.2.1 (e ▸ hb)) hb9, H8.out.2.1.other kx (fun b hb e => H8.out.2.2.2.2.2.2.1 (e ▸ hb)) hb9, ⟨kx.own H8.out.2.2.1.own H8.out.2.2.1.lt H8.out.2.2.2.2.2.2.2.1, H8.out.2.2.1.no, Nat.lt_of_lt_of_le H8.out.2.2.1.lt kx.size⟩, H8.out.2.2.2.1⟩
          have HK9 := Lib.hid K9
          clear h0 K9
          go_wp2_with fail
          have F9 := HK9.out (.int .u8 (((b1 : Int) + 1) % 256))
          refine (at_load F9.1 p len3 (by omega) (by omega) (by have := HT6.out; have := H8.out.2.2.2.2.2.2.2.2.2.2; omega)).mono ?_
          rintro e w10 ⟨g10, rfl, C10, L10, k10, _, g10l⟩
          have e10 : M.rd (M.wr f6 p xs) p len3 = xs := by
            have := M.rd_wr f6 p xs
            rw [← HX.out.1] at this
            exact this
          rw [e10] at L10
          have S10 := F9.2.1.other k10 H8.out.2.2.2.2.2.2.2.2.2.1 C10.bel
          have hg10 : ¬ O g10 := fun e => by have := F9.2.1.sp.lt e; omega
          have H10 := Lib.hid (show At w w10 s 3 (T + M.touched 0 12288) f O ∧ Loose w10 O g4 L ∧ Loose w10 O g10 xs from
            ⟨S10, ⟨k10.own F9.2.2.1.own F9.2.2.1.lt F9.2.2.2, F9.2.2.1.no, Nat.lt_of_lt_of_le F9.2.2.1.lt k10.size⟩, ⟨L10.own, hg10, L10.lt⟩⟩)
          clear C10 L10 k10 e10 S10 hg10 g10l
          go_wp2_with fail
          refine (at_load H10.out.1 0 12288 (by decide) (by decide) (by have := HT.out; have := HT1.out; omega)).mono ?_
          rintro e w11 ⟨g11, rfl, S11, L11, k11, _, g11l⟩
          rw [← HL.out.1] at L11
          have L4 := H10.out.2.1.kept k11
          have LX := H10.out.2.2.kept k11
          have q1 := LX.conv len3 len3 HX.out.1
          have q2 := conv_at w11 a3 len3 xs cap3 HX.out.1 (HX.out.2.1.below S11.bel)
          have q3 := L11.conv 12288 12288 HL.out.2.symm
          have q4 := L4.conv 12288 12288 HL.out.2.symm
          have hx0 : L[0]? = some (f 0) := by rw [HL.out.1]; exact rd_head f 12288 (by decide)
          have cc := own_cell L11.own (f 0) hx0
          have cf := L11.own.2 0 (by have := HL.out.2; omega)
          have hf8 : (f 0).toNat < 256 := (f 0).toNat_lt
          have K12 : ∀ v, At w (w11.setCell ⟨g11, 0, none⟩ v) s 3 (T + M.touched 0 12288 + M.touched 0 12288) f O ∧ Loose (w11.setCell ⟨g11, 0, none⟩ v) O g4 L := fun v => by
            have kx : Kept w11 (w11.setCell ⟨g11, 0, none⟩ v) (fun b => b = g11) := (Kept.refl _ (fun b => b = g11)).setCell (p := ⟨g11, 0, none⟩) (fun _ => rfl) v
            have h4 : g4 ≠ g11 := fun e => by have := H10.out.2.1.lt; omega
            have hw11 : w.heap.size ≤ g11 := Nat.le_trans H10.out.1.bel.size g11l
            exact ⟨S11.other kx (fun b hb e => L11.no (e ▸ hb)) (S11.bel.trans (kx.below S11.bel.size (fun i e => by omega))), ⟨kx.own L4.own L4.lt h4, L4.no, Nat.lt_of_lt_of_le L4.lt kx.size⟩⟩
          have HK12 := Lib.hid K12
          have HX0 := Lib.hid hx0
          generalize hff : f 0 = x0 at *
          generalize hfx : x0.toNat = b0 at *
          clear S11 L11 k11 L4 LX K12 hx0 g11l
          go_wp2_with fail
          refine (at_load (HK12.out _).1 0 1 (by decide) (by decide) (by have := HT.out; have := HT1.out; omega)).mono ?_
          rintro e w13 ⟨g13, rfl, S13, L13, k13, _, _⟩
          have B13 := Lib.hid S13.bel
          have c13 := own_cell L13.own x0 (by rw [← hff]; exact rd_head f 1 (by decide))
          have c4 := own_cell ((HK12.out _).2.kept k13).own x0 HX0.out
          rw [hfx] at c13 c4
          clear S13 L13 k13 q1 q2 q3 q4 cc cf
          go_wp2_with fail
          go_quiet (fail)
          go_wp2
          go_ret
          exact ⟨rfl, below_drewN' B13.out _⟩
    · have hg' : fewB ms = false := by simpa using hg
      clear hg
      go_wp2
      go_ret
      exact ⟨rfl, B1.out⟩
  · have hf' : fewB ls = false := by simpa using hf
    clear hf
    go_wp2
    go_ret
    exact ⟨rfl, B1.out⟩

/-! The row's step. -/
set_option maxRecDepth 100000 in
theorem lifted (os : Os) (started : os.Started) (H : Type) (enc : TypeId × Value → H) :
    ReturnsInHanded {} Try.checked os 7 .any (Rows.spaceApartSpec.pre6 enc Try.prog Try.f7 Rows.spaceApartRow.domain false) (Rows.spaceApartSpec.post enc Try.prog Try.f7 false true false false) := by
  refine returnsInHanded_of_change (C := Try.checked) own started (by kernel_rfl) Try.func7
    (ChangeSpec.witness6 (enc := enc) (C := Try.checked) false ⟨#[], #[.slice none 0 0, .slice none 0 0, .int .u8 0, .slice none 0 0], []⟩ 8 (by kernel_rfl) (by kernel_rfl) (by kernel_rfl) (by kernel_rfl)) ?_
  intro W base args ds gs before hval0 hW hcnd _
  have hval : ∀ (j : Nat) t v, Try.f7.params[j]? = some t → args[j]? = some v → Value.okWide Try.prog W .any base t v := hval0
  have hW' := hW
  obtain ⟨p, q, hA0, hV, rfl, hfz, hnd⟩ := hW
  have hA : DataW.TrodAll enc Try.prog W 0 (fun _ => true) true Try.f7.params.toList args.toList ds p := hA0
  rw [Try.params7] at hA hval
  obtain ⟨v0, vs0, d0, ds0, p0, q0, hargs, rfl, rfl, h0, r0⟩ := trodAll_cons hA
  obtain ⟨v1, vs1, d1, ds1, p1, q1, rfl, rfl, rfl, h1, r1⟩ := trodAll_cons r0
  obtain ⟨v2, vs2, d2, ds2, p2, q2, rfl, rfl, rfl, h2, r2⟩ := trodAll_cons r1
  obtain ⟨v3, vs3, d3, ds3, p3, q3, rfl, rfl, rfl, h3, r3⟩ := trodAll_cons r2
  obtain ⟨rfl, rfl, rfl⟩ := trodAll_nil r3
  obtain rfl : args = #[v0, v1, v2, v3] := by cases args; simp_all
  obtain ⟨rfl, rfl⟩ := trodVars_none hV
  obtain ⟨a0, len0, cap0, rfl⟩ := okWide_slice Try.underlying22 (hval 0 22 v0 rfl rfl)
  have k0 := h0
  have lt0 : ∀ x ∈ p0, x.block < W.heap.size := by obtain ⟨m, hm⟩ := k0; exact DataW.trod_lt m _ _ _ hm
  have w0 : IsActs W a0 len0 := by
    obtain ⟨fuel, hf⟩ := h0
    obtain ⟨A, l, c, hcs, hw⟩ := acts_open hf
    simp [Value.cells] at hcs
    obtain ⟨rfl, rfl, rfl⟩ := hcs
    exact hw
  obtain ⟨a1, len1, cap1, rfl⟩ := okWide_slice Try.underlying22 (hval 1 22 v1 rfl rfl)
  have k1 := h1
  have lt1 : ∀ x ∈ p1, x.block < W.heap.size := by obtain ⟨m, hm⟩ := k1; exact DataW.trod_lt m _ _ _ hm
  have w1 : IsActs W a1 len1 := by
    obtain ⟨fuel, hf⟩ := h1
    obtain ⟨A, l, c, hcs, hw⟩ := acts_open hf
    simp [Value.cells] at hcs
    obtain ⟨rfl, rfl, rfl⟩ := hcs
    exact hw
  obtain ⟨a2, rfl, rfl, rfl, w2⟩ := open_int Try.underlying5 (hval 2 5 v2 rfl rfl) h2
  obtain ⟨a3, len3, cap3, rfl⟩ := okWide_slice Try.underlying32 (hval 3 32 v3 rfl rfl)
  have k3 := h3
  have lt3 : ∀ x ∈ p3, x.block < W.heap.size := by obtain ⟨m, hm⟩ := k3; exact DataW.trod_lt m _ _ _ hm
  obtain ⟨z3, w3⟩ : ∃ zs, IsRow .u8 W a3 len3 cap3 zs := by
    obtain ⟨fuel, hf⟩ := h3
    rcases open_ints Try.underlying32 Try.underlying5 (by kernel_rfl) hf with ⟨hcs, _⟩ | ⟨x, l, c, zs, hcs, _, hl, hm, hz, _, hcell, hwz⟩
    · simp [Value.cells] at hcs
      obtain ⟨rfl, rfl, rfl⟩ := hcs
      exact ⟨[], .inl ⟨rfl, rfl, rfl, rfl⟩⟩
    · simp [Value.cells] at hcs
      obtain ⟨rfl, rfl, rfl⟩ := hcs
      exact ⟨zs, .inr ⟨_, rfl, hl, hm, by simpa using hz, hcell, hwz⟩⟩
  clear hA0 hval0
  refine (walk a0 len0 cap0 a1 len1 cap1 a2 a3 len3 cap3 z3 W w0 w1 w2 w3).mono fun e W' ⟨he, bel⟩ => ?_
  subst he
  exact ⟨_, rfl, _, _, _, [], _, [], hW', trodAll_mk1 (shut_bool Try.underlying4 _), (trodAll_cons_mk (Below.trod laidOut (by kernel_rfl) (of_decide_eq_true (by kernel_rfl)) k0 bel lt0) (trodAll_cons_mk (Below.trod laidOut (by kernel_rfl) (of_decide_eq_true (by kernel_rfl)) k1 bel lt1) (trodAll_cons_mk (shut_int Try.underlying5 w2) (trodAll_cons_mk (Below.trod laidOut (by kernel_rfl) (of_decide_eq_true (by kernel_rfl)) k3 bel lt3) trodAll_mk0)))), rfl, bel.frame _, fun h => by cases h⟩

theorem over : Rows.spaceApartRow.holds Try.pinned (OpenSpec.ofChange Rows.spaceApartSpec) :=
  OpenClaim.holds_of_wide 7 Try.f7 rfl rfl rfl rfl rfl rfl rfl ⟨rfl, rfl, rfl, rfl, rfl⟩ rfl rfl rfl rfl rfl (by kernel_rfl) Try.func7 (by kernel_rfl)
    (of_decide_eq_true (by kernel_rfl)) (by unfold Func.isWrapper; first | (rw [if_pos (by decide +kernel)]; kernel_rfl) | (rw [if_neg (by decide +kernel)]; exact ⟨rfl, rfl⟩))
    (fun os started H enc _ => lifted os started H enc)

/-- The statement. -/
theorem proved : Rows.SpaceApartSaid := over
#print axioms proved
end Go.Proofs.Ytdchnncoddjngaa.spaceApart
