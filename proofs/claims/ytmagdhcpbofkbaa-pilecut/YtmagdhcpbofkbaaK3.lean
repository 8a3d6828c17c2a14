/-
  The program's Give.
-/
import Derived.Test.YtmagdhcpbofkbaaK2
import Derived.Test.YtmagdhcpbofkbaaK1
namespace Go.Proofs.Ytmagdhcpbofkbaa
open Go.ChangeShapes Go.WideShapes Go.ChangeAt Go.RowKit Go.Deep
set_option linter.unusedVariables false
set_option maxRecDepth 20000

def giveB (l : List M.R) (N p n : Int) : Bool := rfitsB p n N && !M.hasR l p n
def giveL (l : List M.R) (N p n : Int) : List M.R := if giveB l N p n = true then M.give l p n else []
/-- What Give answers. -/
def GotGF (w : World) (l : List M.R) (b : Bool) (e : Ending) (w' : World) : Prop := ∃ A' t c', e = .returned (.tuple #[.slice A' t c', .bool b]) ∧ t = l.length ∧ Runs w' A' l ∧ Below w.heap.size w w' ∧ FreshR w.heap.size A'
def GotG (w : World) (l : List M.R) (b : Bool) (e : Ending) (w' : World) : Prop := ∃ A' t c', e = .returned (.tuple #[.slice A' t c', .bool b]) ∧ t = l.length ∧ Runs w' A' l ∧ Below w.heap.size w w'

set_option maxHeartbeats 8000000 in
theorem give_some (w : World) (A : Option Addr) (l : List M.R) (z c : Nat) (hz : z = l.length) (hA : Runs w A l) (hl : z ≤ 4000000000) (hok : M.Ok (-1) 1073741824 l) (N p n : Int) (hN : N ≤ 1073741824) (hg : giveB l N p n = true) (h0 : 0 < z) :
    Calls Try.prog 57 #[.slice A z c, .int .i64 N, .int .i64 p, .int .i64 n] w (GotGF w (giveL l N p n) (giveB l N p n)) := by
  have HR := Lib.hid (show giveL l N p n = M.give l p n ∧ giveB l N p n = true from ⟨by rw [giveL, if_pos hg], hg⟩)
  unfold giveB at hg
  simp only [Bool.and_eq_true, Bool.not_eq_true'] at hg
  obtain ⟨hf, hh⟩ := hg
  have hfb := (rfitsB_iff _ _ _).1 hf
  have hfits := fun W => rfits_any W p n N (by omega)
  rw [hf] at hfits
  have hhas := fun W h => has_any W A l z c hz h (by omega) hok p n (by omega) (by omega) (by omega)
  rw [hh] at hhas
  have HZ := Lib.hid hz
  have HA := Lib.hid hA
  have HO := Lib.hid hok
  have HH := Lib.hid hh
  obtain ⟨bl, o, rfl, hcc⟩ := hA (by omega)
  have HCC := Lib.hid hcc
  clear hcc
  have HC := Lib.hid (And.intro hfits hhas)
  obtain ⟨g, hg⟩ : ∃ g, g = w.heap.size := ⟨_, rfl⟩
  have HGW := Lib.hid (show w.heap.size ≤ g from by omega)
  have x1 := Box.new w 34 p n
  rw [← hg] at x1
  have X1 := Lib.hid x1
  have HG := Lib.hid hg
  have B1 := Lib.hid (show Below w.heap.size w (w.alloc (.cells #[.int .i64 p, .int .i64 n] 34)) from (Below.refl _ _).alloc (Nat.le_refl _) _)
  clear hfits hhas hz hA hok hh hf x1 hg
  go_enter Try.func57, Try.ntmps57
  go_wp2_with (first
    | (go_at_call 73; refine (HC.out.1 _).mono ?_; rintro e w2 ⟨rfl, b2⟩; (have B2 := Lib.hid (below_call B1.out b2)); (have X2 := Lib.hid (X1.out.below b2)); clear b2)
    | (go_at_call 74; refine (HC.out.2 _ (HA.out.below B2.out)).mono ?_; rintro e w3 ⟨rfl, b3⟩))
  rw [← HG.out]
  have BW := Lib.hid (below_call B2.out b3)
  have BX := Lib.hid (X2.out.below b3)
  clear b3 B2 X2 X1 B1 HC
  obtain ⟨p0, hp0⟩ : ∃ p0, p0 = p := ⟨_, rfl⟩
  go_loop [11] (fun i => ∃ k : Nat, k ≤ z ∧ i = .int .i64 (k : Int) ∧ ∀ j (h : j < l.length), j < k → l[j].p < p) (fun i => z - (intOf i).toNat)
  case atStart => exact ⟨0, by omega, rfl, fun j _ h => by omega⟩
  case round =>
    obtain ⟨k, hk, rfl, hbel⟩ := hrel
    have HBL := Lib.hid hbel
    clear hbel
    by_cases hgo : ∃ h : k < l.length, l[k].p < p
    · obtain ⟨hkl, hlt⟩ := hgo
      have c0 := (HCC.out k hkl).1
      have d0 := (BW.out.cell (lt_of_cell c0)).trans c0
      have nxt : ∀ j (h : j < l.length), j < k + 1 → l[j].p < p := fun j hj hjk => by
        rcases Nat.lt_or_ge j k with h1 | h1
        · exact HBL.out j hj h1
        · obtain rfl : j = k := by omega
          exact hlt
      have NXT := Lib.hid nxt
      have hkz : k < z := by have := HZ.out; omega
      obtain ⟨x, hx⟩ : ∃ x, x = l[k].p := ⟨_, rfl⟩
      rw [← hx] at d0 hlt
      clear hx c0 nxt hkl
      go_wp2_with fail
      go_round
      case rel => exact ⟨k + 1, by omega, by go_num, NXT.out⟩
      case measure => simp [intOf]; omega
    · have hcnt : k = M.cnt p l := M.cnt_of p l k (by have := HZ.out; omega) HBL.out (fun h => by
        rcases Int.lt_or_le l[k].p p with h1 | h1
        · exact absurd ⟨h, h1⟩ hgo
        · exact h1)
      have HCT := Lib.hid hcnt
      clear hcnt HBL
      go_upto_region 5 with fail
      go_cut [38] (fun v wx => v = .bool false ∧ wx = w3)
      case first =>
        by_cases hkz : k < z
        · have hkl : k < l.length := by have := HZ.out; omega
          have c0 := (HCC.out k hkl).1
          have d0 := (BW.out.cell (lt_of_cell c0)).trans c0
          have hge : ¬ l[k].p < p := fun h => hgo ⟨hkl, h⟩
          obtain ⟨x, hx⟩ : ∃ x, x = l[k].p := ⟨_, rfl⟩
          rw [← hx] at d0 hge
          clear hx c0 hkl hgo
          go_wp2_with fail
          go_meet
          exact ⟨by first | rfl | (simp; omega), rfl⟩
        · clear hgo
          go_wp2_with fail
          go_meet
          exact ⟨by first | rfl | (simp; omega), rfl⟩
      case rest =>
        obtain ⟨rfl, rfl⟩ := hcut
        clear hgo
        have hgive : M.give l p n = l.take (M.fromA l k p) ++ (M.gB l k (M.gA l k p n) :: l.drop (M.toB l k (M.gA l k p n))) := by rw [HCT.out]; rfl
        by_cases hkpos : 0 < k
        · obtain ⟨j, hjk⟩ : ∃ j, k = j + 1 := ⟨k - 1, by omega⟩
          have hjl : j < l.length := by have := HZ.out; omega
          have hgd : l.getD (k - 1) ⟨0, 0⟩ = l[j] := by rw [hjk, Nat.add_sub_cancel]; exact M.getD_at l j hjl
          have c0 := (HCC.out j hjl).1
          have c1 := (HCC.out j hjl).2
          have bj := ok_at HO.out j hjl
          have hfA : M.fromA l k p = if l[j].p + l[j].n = p then j else k := by
            unfold M.fromA M.jA
            simp only [hgd, hkpos, decide_true, Bool.true_and, decide_eq_true_eq]
            rw [hjk, Nat.add_sub_cancel]
          have hgA : M.gA l k p n = if l[j].p + l[j].n = p then ⟨l[j].p, l[j].n + n⟩ else ⟨p, n⟩ := by
            unfold M.gA M.jA
            simp only [hgd, hkpos, decide_true, Bool.true_and, decide_eq_true_eq]
          obtain ⟨pa, hpa⟩ : ∃ pa, pa = l[j].p := ⟨_, rfl⟩
          obtain ⟨nj, hnj⟩ : ∃ nj, nj = l[j].n := ⟨_, rfl⟩
          rw [← hpa] at c0 bj hfA hgA
          rw [← hnj] at c1 bj hfA hgA
          obtain ⟨s, hs⟩ : ∃ s, pa + nj = s := ⟨_, rfl⟩
          rw [hs] at hfA hgA
          have HS := Lib.hid (show pa + nj = s ∧ -9223372036854775808 ≤ s ∧ s ≤ 9223372036854775807 from ⟨hs, by omega, by omega⟩)
          have C0 := Lib.hid c0
          have C1 := Lib.hid c1
          have d0 := (BW.out.cell (lt_of_cell c0)).trans c0
          have d1 := (BW.out.cell (lt_of_cell c1)).trans c1
          have hjz : j < z := by have := HZ.out; omega
          have hwj : wrap64 ((k : Int) - 1) = (j : Int) := by unfold wrap64; omega
          have hkj : (k : Int) - 1 = (j : Int) := by omega
          have hkj2 : k - 1 = j := by omega
          have HF := Lib.hid (show j ≤ k ∧ k = j + 1 from ⟨by omega, hjk⟩)
          clear hgd c0 c1 hpa hnj hjl hjk
          by_cases tA : s = p
          · rw [if_pos tA] at hfA hgA
            obtain ⟨na, hna⟩ : ∃ na, nj + n = na := ⟨_, rfl⟩
            rw [hna] at hgA
            have GV := Lib.hid (show M.give l p n = l.take j ++ (M.gB l k ⟨pa, na⟩ :: l.drop (M.toB l k ⟨pa, na⟩)) by rw [hgive, hfA, hgA])
            have HJ := Lib.hid (show nj + n = na ∧ -9223372036854775808 ≤ na ∧ na ≤ 9223372036854775807 from ⟨hna, by omega, by omega⟩)
            have HNA := Lib.hid (show 1 ≤ na ∧ 0 ≤ pa ∧ pa + na ≤ 1073741824 from ⟨by omega, by omega, by omega⟩)
            clear hgive hfA hgA bj hna hs
            have tA2 : p = s := tA.symm
            clear tA
            subst tA2
            go_wp2_with (go_at_call 75; refine (end_any _ pa nj p HS.out.1 HS.out.2.1 HS.out.2.2).mono ?_; rintro e w5 ⟨rfl, hb5⟩; (have B5 := Lib.hid (below_call BW.out hb5)); (have X5 := Lib.hid (BX.out.below hb5)); clear hb5)
            have d0 := (B5.out.cell (lt_of_cell C0.out)).trans C0.out
            have d1 := (B5.out.cell (lt_of_cell C1.out)).trans C1.out
            have e0 := X5.out.c0
            have e1 := X5.out.c1
            clear BW BX
            have BW := B5
            have BX := X5
            go_cut [] (fun wx => Box wx g pa na ∧ Below w.heap.size w wx)
            case first =>
              refine wp_region_noPanic ?_
              refine wp_region_held_drew (S := fun _ => True) (by kernel_rfl) (trivial) (fun hHeld => ?_)
              refine wpAnyH_take (i := 0) (oi := ({ dst := some 56, op := Op.move (Operand.tmp 0), type := 29, pos := "runs.go:97", after := #[], guard := none } : Oper)) (v := ?_) rfl (by kernel_rfl) (by kernel_rfl) (by kernel_rfl) (fun _ _ _ h => h) (Or.inl ⟨by rfl, ?_⟩) (by assumption) ?_
              rotate_left
              · (intro w hSw; (try dsimp only at hSw); go_simp) <;> with_reducible rfl
              (try simp only [Act.put, List.setIfInBounds_toArray, List.set_cons_zero, List.set_cons_succ])
              refine wpAnyH_take (i := 1) (oi := ({ dst := some 57, op := Op.move (Operand.tmp 11), type := 3, pos := "runs.go:97", after := #[], guard := none } : Oper)) (v := ?_) rfl (by kernel_rfl) (by kernel_rfl) (by kernel_rfl) (fun _ _ _ h => h) (Or.inl ⟨by rfl, ?_⟩) (by assumption) ?_
              rotate_left
              · (intro w hSw; (try dsimp only at hSw); go_simp) <;> with_reducible rfl
              (try simp only [Act.put, List.setIfInBounds_toArray, List.set_cons_zero, List.set_cons_succ])
              refine wpAnyH_take (i := 2) (oi := ({ dst := some 58, op := Op.indexAddr 29 (Operand.tmp 56) (Operand.tmp 57), type := 0, pos := "runs.go:97", after := #[{ on := 0, ground := Ground.data }, { on := 1, ground := Ground.data }], guard := none } : Oper)) (v := ?_) rfl (by kernel_rfl) (by kernel_rfl) (by kernel_rfl) (fun _ _ _ h => h) (Or.inl ⟨by rfl, ?_⟩) (by assumption) ?_
              rotate_left
              · (intro w hSw; (try dsimp only at hSw); go_simp) <;> with_reducible rfl
              (try simp only [Act.put, List.setIfInBounds_toArray, List.set_cons_zero, List.set_cons_succ])
              refine wpAnyH_ready (rs := [3, 4]) (by kernel_rfl) (by simp) ?_
              refine AllReadyH.cons (o := ({ dst := some 59, op := Op.load 34 (Operand.tmp 58), type := 34, pos := "runs.go:97", after := #[{ on := 2, ground := Ground.data }], guard := none } : Oper)) rfl (fun K hK => ?_) ?_
              · go_simp
                refine hK.out _ _ ?_ (fun hHeld => ?_)
                · trivial
                clear hK K
                (try simp only [Act.put, List.setIfInBounds_toArray, List.set_cons_zero, List.set_cons_succ])
                refine wpAnyH_ready (rs := [4]) (by kernel_rfl) (by simp) ?_
                refine AllReadyH.cons (o := ({ dst := some 60, op := Op.load 34 (Operand.tmp 10), type := 34, pos := "runs.go:97", after := #[], guard := none } : Oper)) rfl (fun K hK => ?_) ?_
                · go_simp
                  refine hK.out _ _ ?_ (fun hHeld => ?_)
                  · trivial
                  clear hK K
                  (try simp only [Act.put, List.setIfInBounds_toArray, List.set_cons_zero, List.set_cons_succ])
                  refine wpAnyH_ready (rs := [5]) (by kernel_rfl) (by simp) ?_
                  refine AllReadyH.cons (o := ({ dst := some 61, op := Op.call { callee := Callee.value (Operand.func 76), args := #[Operand.tmp 59, Operand.tmp 60], argTypes := #[34, 34] }, type := 34, pos := "runs.go:97", after := #[{ on := 3, ground := Ground.data }, { on := 4, ground := Ground.data }], guard := none } : Oper)) rfl (fun K hK => ?_) ?_
                  · go_simp
                    refine (joined_any _ pa nj p n na HJ.out.1 HJ.out.2.1 HJ.out.2.2).mono ?_
                    rintro e w6 ⟨rfl, hb6⟩
                    have hB6 : Below w.heap.size w w6 := below_call BW.out (below_drewL hb6)
                    have x6 := BX.out.below (below_drewL hb6)
                    have r0 := x6.c0
                    have r1 := x6.c1
                    have r2 := x6.f0
                    have r3 := x6.f1
                    have X6 := Lib.hid x6
                    clear x6
                    go_wp2_with fail
                    refine hK.out _ _ ?_ (fun hHeld => ?_)
                    · trivial
                    clear hK K
                    (try simp only [Act.put, List.setIfInBounds_toArray, List.set_cons_zero, List.set_cons_succ])
                    refine wpAnyH_ready (rs := [6]) (by kernel_rfl) (by simp) ?_
                    refine AllReadyH.cons (o := ({ dst := none, op := Op.store 34 (Operand.tmp 10) (Operand.tmp 61), type := 0, pos := "runs.go:97", after := #[{ on := 5, ground := Ground.data }, { on := 5, ground := Ground.chain }, { on := 0, ground := Ground.phase }, { on := 1, ground := Ground.phase }, { on := 2, ground := Ground.phase }, { on := 3, ground := Ground.phase }, { on := 4, ground := Ground.phase }, { on := 5, ground := Ground.phase }], guard := none } : Oper)) rfl (fun K hK => ?_) ?_
                    · go_simp
                      refine hK.out _ _ ?_ (fun hHeld => ?_)
                      · trivial
                      clear hK K
                      (try simp only [Act.put, List.setIfInBounds_toArray, List.set_cons_zero, List.set_cons_succ])
                      refine wpAnyH_done (by kernel_rfl) ?_ _
                      refine NoPanic.normal ?_
                      go_wp2_with fail
                      go_meet
                      exact ⟨X6.out.set pa na, below_set hB6 HGW.out _ _⟩
                    exact AllReadyH.nil
                  exact AllReadyH.nil
                exact AllReadyH.nil
              refine AllReadyH.cons (o := ({ dst := some 60, op := Op.load 34 (Operand.tmp 10), type := 34, pos := "runs.go:97", after := #[], guard := none } : Oper)) rfl (fun K hK => ?_) ?_
              · go_simp
                refine hK.out _ _ ?_ (fun hHeld => ?_)
                · trivial
                clear hK K
                (try simp only [Act.put, List.setIfInBounds_toArray, List.set_cons_zero, List.set_cons_succ])
                refine wpAnyH_ready (rs := [3]) (by kernel_rfl) (by simp) ?_
                refine AllReadyH.cons (o := ({ dst := some 59, op := Op.load 34 (Operand.tmp 58), type := 34, pos := "runs.go:97", after := #[{ on := 2, ground := Ground.data }], guard := none } : Oper)) rfl (fun K hK => ?_) ?_
                · go_simp
                  refine hK.out _ _ ?_ (fun hHeld => ?_)
                  · trivial
                  clear hK K
                  (try simp only [Act.put, List.setIfInBounds_toArray, List.set_cons_zero, List.set_cons_succ])
                  refine wpAnyH_ready (rs := [5]) (by kernel_rfl) (by simp) ?_
                  refine AllReadyH.cons (o := ({ dst := some 61, op := Op.call { callee := Callee.value (Operand.func 76), args := #[Operand.tmp 59, Operand.tmp 60], argTypes := #[34, 34] }, type := 34, pos := "runs.go:97", after := #[{ on := 3, ground := Ground.data }, { on := 4, ground := Ground.data }], guard := none } : Oper)) rfl (fun K hK => ?_) ?_
                  · go_simp
                    refine (joined_any _ pa nj p n na HJ.out.1 HJ.out.2.1 HJ.out.2.2).mono ?_
                    rintro e w6 ⟨rfl, hb6⟩
                    have hB6 : Below w.heap.size w w6 := below_call BW.out (below_drewL hb6)
                    have x6 := BX.out.below (below_drewL hb6)
                    have r0 := x6.c0
                    have r1 := x6.c1
                    have r2 := x6.f0
                    have r3 := x6.f1
                    have X6 := Lib.hid x6
                    clear x6
                    go_wp2_with fail
                    refine hK.out _ _ ?_ (fun hHeld => ?_)
                    · trivial
                    clear hK K
                    (try simp only [Act.put, List.setIfInBounds_toArray, List.set_cons_zero, List.set_cons_succ])
                    refine wpAnyH_ready (rs := [6]) (by kernel_rfl) (by simp) ?_
                    refine AllReadyH.cons (o := ({ dst := none, op := Op.store 34 (Operand.tmp 10) (Operand.tmp 61), type := 0, pos := "runs.go:97", after := #[{ on := 5, ground := Ground.data }, { on := 5, ground := Ground.chain }, { on := 0, ground := Ground.phase }, { on := 1, ground := Ground.phase }, { on := 2, ground := Ground.phase }, { on := 3, ground := Ground.phase }, { on := 4, ground := Ground.phase }, { on := 5, ground := Ground.phase }], guard := none } : Oper)) rfl (fun K hK => ?_) ?_
                    · go_simp
                      refine hK.out _ _ ?_ (fun hHeld => ?_)
                      · trivial
                      clear hK K
                      (try simp only [Act.put, List.setIfInBounds_toArray, List.set_cons_zero, List.set_cons_succ])
                      refine wpAnyH_done (by kernel_rfl) ?_ _
                      refine NoPanic.normal ?_
                      go_wp2_with fail
                      go_meet
                      exact ⟨X6.out.set pa na, below_set hB6 HGW.out _ _⟩
                    exact AllReadyH.nil
                  exact AllReadyH.nil
                exact AllReadyH.nil
              exact AllReadyH.nil
            case rest =>
              obtain ⟨bx, bw⟩ := hcut
              clear BW BX B5 X5 d0 d1 e0 e1 HJ C0 C1
              have BX := Lib.hid bx
              have BW := Lib.hid bw
              clear bx bw
              obtain ⟨ea, hea⟩ : ∃ ea, pa + na = ea := ⟨_, rfl⟩
              have hbn := HNA.out
              clear HS
              go_wp2_with fail
              have HE := Lib.hid (show pa + na = ea ∧ -9223372036854775808 ≤ ea ∧ ea ≤ 9223372036854775807 from ⟨hea, by omega, by omega⟩)
              by_cases hkz2 : k < z
              · have hkl : k < l.length := by have := HZ.out; omega
                have hc := HCC.out
                have hgd := M.getD_at l k hkl
                have bk := ok_at HO.out k hkl
                have c0 := (hc k hkl).1
                have c1 := (hc k hkl).2
                have hgB : M.gB l k ⟨pa, na⟩ = if l[k].p = ea then ⟨pa, na + l[k].n⟩ else ⟨pa, na⟩ := by
                  unfold M.gB M.jB
                  simp only [hgd, hkl, hea, decide_true, Bool.true_and, decide_eq_true_eq]
                have htB : M.toB l k ⟨pa, na⟩ = if l[k].p = ea then k + 1 else k := by
                  unfold M.toB M.jB
                  simp only [hgd, hkl, hea, decide_true, Bool.true_and, decide_eq_true_eq]
                obtain ⟨pb, hpb⟩ : ∃ pb, pb = l[k].p := ⟨_, rfl⟩
                obtain ⟨nb, hnb⟩ : ∃ nb, nb = l[k].n := ⟨_, rfl⟩
                rw [← hpb] at c0 bk hgB htB
                rw [← hnb] at c1 bk hgB
                have C0 := Lib.hid c0
                have C1 := Lib.hid c1
                have d0 := (BW.out.cell (lt_of_cell c0)).trans c0
                have d1 := (BW.out.cell (lt_of_cell c1)).trans c1
                clear hc hgd hpb hnb c0 c1 hkl hea
                by_cases tB : pb = ea
                · rw [if_pos tB] at hgB htB
                  have HGV := Lib.hid (show M.give l p n = l.take j ++ (⟨pa, na + nb⟩ :: l.drop (k + 1)) by rw [GV.out, hgB, htB])
                  obtain ⟨nc, hnc⟩ : ∃ nc, na + nb = nc := ⟨_, rfl⟩
                  rw [hnc] at HGV
                  have HJ := Lib.hid (show na + nb = nc ∧ -9223372036854775808 ≤ nc ∧ nc ≤ 9223372036854775807 from ⟨hnc, by omega, by omega⟩)
                  have hnc1 : 1 ≤ nc := by omega
                  clear hgB htB GV bk hnc
                  go_cut [75] (fun v wx => v = .bool true ∧ Box wx g pa na ∧ Below w.heap.size w wx)
                  case first =>
                    refine wp_region_noPanic ?_
                    refine wp_region_held_drew (S := fun W => W.cell? ⟨g, 0, none⟩ = some (.int .i64 pa) ∧ W.cell? ⟨g, 1, none⟩ = some (.int .i64 na) ∧ W.cell? ⟨bl, o + k * 2, none⟩ = some (.int .i64 pb) ∧ W.cell? ⟨bl, o + k * 2 + 1, none⟩ = some (.int .i64 nb)) (by kernel_rfl) (⟨BX.out.drew.c0, BX.out.drew.c1, (BW.out.drew.cell (lt_of_cell C0.out)).trans C0.out, (BW.out.drew.cell (lt_of_cell C1.out)).trans C1.out⟩) (fun hHeld => ?_)
                    refine wpAnyH_take (i := 0) (oi := ({ dst := some 62, op := Op.move (Operand.tmp 12), type := 3, pos := "runs.go:99", after := #[], guard := none } : Oper)) (v := ?_) rfl (by kernel_rfl) (by kernel_rfl) (by kernel_rfl) (fun _ _ _ h => h) (Or.inl ⟨by rfl, ?_⟩) (by assumption) ?_
                    rotate_left
                    · (intro w hSw; (try dsimp only at hSw); go_simp) <;> with_reducible rfl
                    (try simp only [Act.put, List.setIfInBounds_toArray, List.set_cons_zero, List.set_cons_succ])
                    refine wpAnyH_take (i := 1) (oi := ({ dst := some 63, op := Op.move (Operand.tmp 0), type := 29, pos := "runs.go:99", after := #[], guard := none } : Oper)) (v := ?_) rfl (by kernel_rfl) (by kernel_rfl) (by kernel_rfl) (fun _ _ _ h => h) (Or.inl ⟨by rfl, ?_⟩) (by assumption) ?_
                    rotate_left
                    · (intro w hSw; (try dsimp only at hSw); go_simp) <;> with_reducible rfl
                    (try simp only [Act.put, List.setIfInBounds_toArray, List.set_cons_zero, List.set_cons_succ])
                    refine wpAnyH_take (i := 2) (oi := ({ dst := some 64, op := Op.call { callee := Callee.builtin Builtin.len, args := #[Operand.tmp 63], argTypes := #[29] }, type := 3, pos := "runs.go:99", after := #[{ on := 1, ground := Ground.data }], guard := none } : Oper)) (v := ?_) rfl (by kernel_rfl) (by kernel_rfl) (by kernel_rfl) (fun _ _ _ h => h) (Or.inl ⟨by rfl, ?_⟩) (by assumption) ?_
                    rotate_left
                    · (intro w hSw; (try dsimp only at hSw); go_simp) <;> with_reducible rfl
                    (try simp only [Act.put, List.setIfInBounds_toArray, List.set_cons_zero, List.set_cons_succ])
                    refine wpAnyH_take (i := 3) (oi := ({ dst := some 65, op := Op.binOp BinOp.lss 3 (Operand.tmp 62) (Operand.tmp 64) 3, type := 4, pos := "runs.go:99", after := #[{ on := 0, ground := Ground.data }, { on := 2, ground := Ground.data }], guard := none } : Oper)) (v := ?_) rfl (by kernel_rfl) (by kernel_rfl) (by kernel_rfl) (fun _ _ _ h => h) (Or.inl ⟨by rfl, ?_⟩) (by assumption) ?_
                    rotate_left
                    · (intro w hSw; (try dsimp only at hSw); go_simp) <;> with_reducible rfl
                    (try simp only [Act.put, List.setIfInBounds_toArray, List.set_cons_zero, List.set_cons_succ])
                    refine wpAnyH_take (i := 4) (oi := ({ dst := some 66, op := Op.move (Operand.tmp 65), type := 4, pos := "runs.go:99", after := #[{ on := 3, ground := Ground.data }], guard := none } : Oper)) (v := ?_) rfl (by kernel_rfl) (by kernel_rfl) (by kernel_rfl) (fun _ _ _ h => h) (Or.inl ⟨by rfl, ?_⟩) (by assumption) ?_
                    rotate_left
                    · (intro w hSw; (try dsimp only at hSw); go_simp) <;> with_reducible rfl
                    (try simp only [Act.put, List.setIfInBounds_toArray, List.set_cons_zero, List.set_cons_succ])
                    refine wpAnyH_take (i := 5) (oi := ({ dst := some 67, op := Op.move (Operand.tmp 0), type := 29, pos := "runs.go:99", after := #[{ on := 4, ground := Ground.guard }], guard := some (4, true) } : Oper)) (v := ?_) rfl (by kernel_rfl) (by kernel_rfl) (by kernel_rfl) (fun _ _ _ h => h) (Or.inl ⟨by rfl, ?_⟩) (by assumption) ?_
                    rotate_left
                    · (intro w hSw; (try dsimp only at hSw); go_simp) <;> with_reducible rfl
                    (try simp only [Act.put, List.setIfInBounds_toArray, List.set_cons_zero, List.set_cons_succ])
                    refine wpAnyH_take (i := 6) (oi := ({ dst := some 68, op := Op.move (Operand.tmp 12), type := 3, pos := "runs.go:99", after := #[{ on := 4, ground := Ground.guard }], guard := some (4, true) } : Oper)) (v := ?_) rfl (by kernel_rfl) (by kernel_rfl) (by kernel_rfl) (fun _ _ _ h => h) (Or.inl ⟨by rfl, ?_⟩) (by assumption) ?_
                    rotate_left
                    · (intro w hSw; (try dsimp only at hSw); go_simp) <;> with_reducible rfl
                    (try simp only [Act.put, List.setIfInBounds_toArray, List.set_cons_zero, List.set_cons_succ])
                    refine wpAnyH_take (i := 7) (oi := ({ dst := some 69, op := Op.indexAddr 29 (Operand.tmp 67) (Operand.tmp 68), type := 0, pos := "runs.go:99", after := #[{ on := 5, ground := Ground.data }, { on := 6, ground := Ground.data }, { on := 4, ground := Ground.guard }], guard := some (4, true) } : Oper)) (v := ?_) rfl (by kernel_rfl) (by kernel_rfl) (by kernel_rfl) (fun _ _ _ h => h) (Or.inl ⟨by rfl, ?_⟩) (by assumption) ?_
                    rotate_left
                    · (intro w hSw; (try dsimp only at hSw); go_simp) <;> with_reducible rfl
                    (try simp only [Act.put, List.setIfInBounds_toArray, List.set_cons_zero, List.set_cons_succ])
                    refine wpAnyH_take (i := 8) (oi := ({ dst := some 70, op := Op.fieldAddr 34 (Operand.tmp 69) 0, type := 0, pos := "runs.go:99", after := #[{ on := 7, ground := Ground.data }, { on := 4, ground := Ground.guard }], guard := some (4, true) } : Oper)) (v := ?_) rfl (by kernel_rfl) (by kernel_rfl) (by kernel_rfl) (fun _ _ _ h => h) (Or.inl ⟨by rfl, ?_⟩) (by assumption) ?_
                    rotate_left
                    · (intro w hSw; (try dsimp only at hSw); go_simp) <;> with_reducible rfl
                    (try simp only [Act.put, List.setIfInBounds_toArray, List.set_cons_zero, List.set_cons_succ])
                    refine wpAnyH_take (i := 9) (oi := ({ dst := some 71, op := Op.load 3 (Operand.tmp 70), type := 3, pos := "runs.go:99", after := #[{ on := 8, ground := Ground.data }, { on := 4, ground := Ground.guard }], guard := some (4, true) } : Oper)) (v := ?_) rfl (by kernel_rfl) (by kernel_rfl) (by kernel_rfl) (fun _ _ _ h => h) (Or.inl ⟨by rfl, ?_⟩) (by assumption) ?_
                    rotate_left
                    · (intro w hSw; (try dsimp only at hSw); go_simp) <;> with_reducible rfl
                    (try simp only [Act.put, List.setIfInBounds_toArray, List.set_cons_zero, List.set_cons_succ])
                    refine wpAnyH_take (i := 10) (oi := ({ dst := some 72, op := Op.load 34 (Operand.tmp 10), type := 34, pos := "runs.go:99", after := #[{ on := 4, ground := Ground.guard }], guard := some (4, true) } : Oper)) (v := ?_) rfl (by kernel_rfl) (by kernel_rfl) (by kernel_rfl) (fun _ _ _ h => h) (Or.inl ⟨by rfl, ?_⟩) (by assumption) ?_
                    rotate_left
                    · (intro w hSw; (try dsimp only at hSw); go_simp) <;> with_reducible rfl
                    (try simp only [Act.put, List.setIfInBounds_toArray, List.set_cons_zero, List.set_cons_succ])
                    refine wpAnyH_ready (rs := [11]) (by kernel_rfl) (by simp) ?_
                    refine AllReadyH.cons (o := ({ dst := some 73, op := Op.call { callee := Callee.value (Operand.func 75), args := #[Operand.tmp 72], argTypes := #[34] }, type := 3, pos := "runs.go:99", after := #[{ on := 10, ground := Ground.data }, { on := 4, ground := Ground.chain }, { on := 4, ground := Ground.guard }], guard := some (4, true) } : Oper)) rfl (fun K hK => ?_) ?_
                    · go_simp
                      refine (end_any _ pa na ea HE.out.1 HE.out.2.1 HE.out.2.2).mono ?_
                      rintro e w6 ⟨rfl, hb6⟩
                      have hB6 : Below w.heap.size w w6 := below_call BW.out (below_drewL hb6)
                      have hX6 := BX.out.below (below_drewL hb6)
                      go_wp2_with fail
                      refine hK.out _ _ ?_ (fun hHeld => ?_)
                      · exact ⟨hX6.c0, hX6.c1, (hB6.cell (lt_of_cell C0.out)).trans C0.out, (hB6.cell (lt_of_cell C1.out)).trans C1.out⟩
                      clear hK K
                      (try simp only [Act.put, List.setIfInBounds_toArray, List.set_cons_zero, List.set_cons_succ])
                      refine wpAnyH_take (i := 12) (oi := ({ dst := some 74, op := Op.binOp BinOp.eql 3 (Operand.tmp 71) (Operand.tmp 73) 3, type := 4, pos := "runs.go:99", after := #[{ on := 9, ground := Ground.data }, { on := 11, ground := Ground.data }, { on := 4, ground := Ground.guard }], guard := some (4, true) } : Oper)) (v := ?_) rfl (by kernel_rfl) (by kernel_rfl) (by kernel_rfl) (fun _ _ _ h => h) (Or.inl ⟨by rfl, ?_⟩) (by assumption) ?_
                      rotate_left
                      · (intro w hSw; (try dsimp only at hSw); go_simp) <;> with_reducible rfl
                      (try simp only [Act.put, List.setIfInBounds_toArray, List.set_cons_zero, List.set_cons_succ])
                      refine wpAnyH_take (i := 13) (oi := ({ dst := some 75, op := Op.pick (Operand.tmp 66) (Operand.tmp 74) (Operand.const (Value.bool false)), type := 4, pos := "runs.go:99", after := #[{ on := 4, ground := Ground.data }, { on := 12, ground := Ground.data }], guard := none } : Oper)) (v := ?_) rfl (by kernel_rfl) (by kernel_rfl) (by kernel_rfl) (fun _ _ _ h => h) (Or.inl ⟨by rfl, ?_⟩) (by assumption) ?_
                      rotate_left
                      · (intro w hSw; (try dsimp only at hSw); go_simp) <;> with_reducible rfl
                      (try simp only [Act.put, List.setIfInBounds_toArray, List.set_cons_zero, List.set_cons_succ])
                      refine wpAnyH_done (by kernel_rfl) ?_ _
                      refine NoPanic.normal ?_
                      go_wp2_with fail
                      go_meet
                      exact ⟨by first | rfl | (simp; omega), hX6, hB6⟩
                    exact AllReadyH.nil
                  case rest =>
                    obtain ⟨rfl, bx, bw⟩ := hcut
                    have BX := Lib.hid bx
                    have BW := Lib.hid bw
                    have d0 := (bw.cell (lt_of_cell C0.out)).trans C0.out
                    have d1 := (bw.cell (lt_of_cell C1.out)).trans C1.out
                    have e0 := bx.c0
                    have e1 := bx.c1
                    clear bx bw
                    go_wp2_with fail
                    go_cut [] (fun wx => Box wx g pa nc ∧ Below w.heap.size w wx)
                    case first =>
                      refine wp_region_noPanic ?_
                      refine wp_region_held_drew (S := fun _ => True) (by kernel_rfl) (trivial) (fun hHeld => ?_)
                      refine wpAnyH_take (i := 1) (oi := ({ dst := some 77, op := Op.move (Operand.tmp 0), type := 29, pos := "runs.go:100", after := #[], guard := none } : Oper)) (v := ?_) rfl (by kernel_rfl) (by kernel_rfl) (by kernel_rfl) (fun _ _ _ h => h) (Or.inl ⟨by rfl, ?_⟩) (by assumption) ?_
                      rotate_left
                      · (intro w hSw; (try dsimp only at hSw); go_simp) <;> with_reducible rfl
                      (try simp only [Act.put, List.setIfInBounds_toArray, List.set_cons_zero, List.set_cons_succ])
                      refine wpAnyH_take (i := 2) (oi := ({ dst := some 78, op := Op.move (Operand.tmp 12), type := 3, pos := "runs.go:100", after := #[], guard := none } : Oper)) (v := ?_) rfl (by kernel_rfl) (by kernel_rfl) (by kernel_rfl) (fun _ _ _ h => h) (Or.inl ⟨by rfl, ?_⟩) (by assumption) ?_
                      rotate_left
                      · (intro w hSw; (try dsimp only at hSw); go_simp) <;> with_reducible rfl
                      (try simp only [Act.put, List.setIfInBounds_toArray, List.set_cons_zero, List.set_cons_succ])
                      refine wpAnyH_take (i := 3) (oi := ({ dst := some 79, op := Op.indexAddr 29 (Operand.tmp 77) (Operand.tmp 78), type := 0, pos := "runs.go:100", after := #[{ on := 1, ground := Ground.data }, { on := 2, ground := Ground.data }], guard := none } : Oper)) (v := ?_) rfl (by kernel_rfl) (by kernel_rfl) (by kernel_rfl) (fun _ _ _ h => h) (Or.inl ⟨by rfl, ?_⟩) (by assumption) ?_
                      rotate_left
                      · (intro w hSw; (try dsimp only at hSw); go_simp) <;> with_reducible rfl
                      (try simp only [Act.put, List.setIfInBounds_toArray, List.set_cons_zero, List.set_cons_succ])
                      refine wpAnyH_ready (rs := [0, 4]) (by kernel_rfl) (by simp) ?_
                      refine AllReadyH.cons (o := ({ dst := some 76, op := Op.load 34 (Operand.tmp 10), type := 34, pos := "runs.go:100", after := #[], guard := none } : Oper)) rfl (fun K hK => ?_) ?_
                      · go_simp
                        refine hK.out _ _ ?_ (fun hHeld => ?_)
                        · trivial
                        clear hK K
                        (try simp only [Act.put, List.setIfInBounds_toArray, List.set_cons_zero, List.set_cons_succ])
                        refine wpAnyH_ready (rs := [4]) (by kernel_rfl) (by simp) ?_
                        refine AllReadyH.cons (o := ({ dst := some 80, op := Op.load 34 (Operand.tmp 79), type := 34, pos := "runs.go:100", after := #[{ on := 3, ground := Ground.data }], guard := none } : Oper)) rfl (fun K hK => ?_) ?_
                        · go_simp
                          refine hK.out _ _ ?_ (fun hHeld => ?_)
                          · trivial
                          clear hK K
                          (try simp only [Act.put, List.setIfInBounds_toArray, List.set_cons_zero, List.set_cons_succ])
                          refine wpAnyH_ready (rs := [5]) (by kernel_rfl) (by simp) ?_
                          refine AllReadyH.cons (o := ({ dst := some 81, op := Op.call { callee := Callee.value (Operand.func 76), args := #[Operand.tmp 76, Operand.tmp 80], argTypes := #[34, 34] }, type := 34, pos := "runs.go:100", after := #[{ on := 0, ground := Ground.data }, { on := 4, ground := Ground.data }], guard := none } : Oper)) rfl (fun K hK => ?_) ?_
                          · go_simp
                            refine (joined_any _ pa na _ nb nc HJ.out.1 HJ.out.2.1 HJ.out.2.2).mono ?_
                            rintro e w6 ⟨rfl, hb6⟩
                            have hB6 : Below w.heap.size w w6 := below_call BW.out (below_drewL hb6)
                            have x6 := BX.out.below (below_drewL hb6)
                            have r0 := x6.c0
                            have r1 := x6.c1
                            have r2 := x6.f0
                            have r3 := x6.f1
                            have X6 := Lib.hid x6
                            clear x6
                            go_wp2_with fail
                            refine hK.out _ _ ?_ (fun hHeld => ?_)
                            · trivial
                            clear hK K
                            (try simp only [Act.put, List.setIfInBounds_toArray, List.set_cons_zero, List.set_cons_succ])
                            refine wpAnyH_ready (rs := [6]) (by kernel_rfl) (by simp) ?_
                            refine AllReadyH.cons (o := ({ dst := none, op := Op.store 34 (Operand.tmp 10) (Operand.tmp 81), type := 0, pos := "runs.go:100", after := #[{ on := 5, ground := Ground.data }, { on := 5, ground := Ground.chain }, { on := 0, ground := Ground.phase }, { on := 1, ground := Ground.phase }, { on := 2, ground := Ground.phase }, { on := 3, ground := Ground.phase }, { on := 4, ground := Ground.phase }, { on := 5, ground := Ground.phase }], guard := none } : Oper)) rfl (fun K hK => ?_) ?_
                            · go_simp
                              refine hK.out _ _ ?_ (fun hHeld => ?_)
                              · trivial
                              clear hK K
                              (try simp only [Act.put, List.setIfInBounds_toArray, List.set_cons_zero, List.set_cons_succ])
                              refine wpAnyH_done (by kernel_rfl) ?_ _
                              refine NoPanic.normal ?_
                              go_wp2_with fail
                              go_meet
                              exact ⟨X6.out.set pa nc, below_set hB6 HGW.out _ _⟩
                            exact AllReadyH.nil
                          exact AllReadyH.nil
                        exact AllReadyH.nil
                      refine AllReadyH.cons (o := ({ dst := some 80, op := Op.load 34 (Operand.tmp 79), type := 34, pos := "runs.go:100", after := #[{ on := 3, ground := Ground.data }], guard := none } : Oper)) rfl (fun K hK => ?_) ?_
                      · go_simp
                        refine hK.out _ _ ?_ (fun hHeld => ?_)
                        · trivial
                        clear hK K
                        (try simp only [Act.put, List.setIfInBounds_toArray, List.set_cons_zero, List.set_cons_succ])
                        refine wpAnyH_ready (rs := [0]) (by kernel_rfl) (by simp) ?_
                        refine AllReadyH.cons (o := ({ dst := some 76, op := Op.load 34 (Operand.tmp 10), type := 34, pos := "runs.go:100", after := #[], guard := none } : Oper)) rfl (fun K hK => ?_) ?_
                        · go_simp
                          refine hK.out _ _ ?_ (fun hHeld => ?_)
                          · trivial
                          clear hK K
                          (try simp only [Act.put, List.setIfInBounds_toArray, List.set_cons_zero, List.set_cons_succ])
                          refine wpAnyH_ready (rs := [5]) (by kernel_rfl) (by simp) ?_
                          refine AllReadyH.cons (o := ({ dst := some 81, op := Op.call { callee := Callee.value (Operand.func 76), args := #[Operand.tmp 76, Operand.tmp 80], argTypes := #[34, 34] }, type := 34, pos := "runs.go:100", after := #[{ on := 0, ground := Ground.data }, { on := 4, ground := Ground.data }], guard := none } : Oper)) rfl (fun K hK => ?_) ?_
                          · go_simp
                            refine (joined_any _ pa na _ nb nc HJ.out.1 HJ.out.2.1 HJ.out.2.2).mono ?_
                            rintro e w6 ⟨rfl, hb6⟩
                            have hB6 : Below w.heap.size w w6 := below_call BW.out (below_drewL hb6)
                            have x6 := BX.out.below (below_drewL hb6)
                            have r0 := x6.c0
                            have r1 := x6.c1
                            have r2 := x6.f0
                            have r3 := x6.f1
                            have X6 := Lib.hid x6
                            clear x6
                            go_wp2_with fail
                            refine hK.out _ _ ?_ (fun hHeld => ?_)
                            · trivial
                            clear hK K
                            (try simp only [Act.put, List.setIfInBounds_toArray, List.set_cons_zero, List.set_cons_succ])
                            refine wpAnyH_ready (rs := [6]) (by kernel_rfl) (by simp) ?_
                            refine AllReadyH.cons (o := ({ dst := none, op := Op.store 34 (Operand.tmp 10) (Operand.tmp 81), type := 0, pos := "runs.go:100", after := #[{ on := 5, ground := Ground.data }, { on := 5, ground := Ground.chain }, { on := 0, ground := Ground.phase }, { on := 1, ground := Ground.phase }, { on := 2, ground := Ground.phase }, { on := 3, ground := Ground.phase }, { on := 4, ground := Ground.phase }, { on := 5, ground := Ground.phase }], guard := none } : Oper)) rfl (fun K hK => ?_) ?_
                            · go_simp
                              refine hK.out _ _ ?_ (fun hHeld => ?_)
                              · trivial
                              clear hK K
                              (try simp only [Act.put, List.setIfInBounds_toArray, List.set_cons_zero, List.set_cons_succ])
                              refine wpAnyH_done (by kernel_rfl) ?_ _
                              refine NoPanic.normal ?_
                              go_wp2_with fail
                              go_meet
                              exact ⟨X6.out.set pa nc, below_set hB6 HGW.out _ _⟩
                            exact AllReadyH.nil
                          exact AllReadyH.nil
                        exact AllReadyH.nil
                      exact AllReadyH.nil
                    case rest =>
                      obtain ⟨bx, bw⟩ := hcut
                      have f0 := bx.c0
                      have f1 := bx.c1
                      have YW := Lib.hid bw
                      clear bx bw d0 d1 e0 e1
                      go_wp2_with (go_at_call 77; refine (changed_put _ (some ⟨bl, o, none⟩) l z c j (k + 1) (j + 1 + (z - (k + 1))) pa nc HZ.out (HA.out.below YW.out) hl (by have := HF.out; omega) (by omega) rfl (by omega)).mono ?_; rintro e w9 ⟨A9, c9, rfl, hr9, hb9, hf9⟩)
                      go_ret2
                      refine ⟨A9, j + 1 + (z - (k + 1)), c9, by rw [HR.out.2]; rfl, ?_, by rw [HR.out.1, HGV.out]; exact hr9, below_call YW.out hb9, hf9.mono YW.out.size⟩
                      have := HZ.out
                      have := HF.out
                      rw [HR.out.1, HGV.out, List.length_append, List.length_take, List.length_cons, List.length_drop]
                      omega
                · rw [if_neg tB] at hgB htB
                  have HGV := Lib.hid (show M.give l p n = l.take j ++ (⟨pa, na⟩ :: l.drop k) by rw [GV.out, hgB, htB])
                  clear hgB htB GV bk
                  go_cut [75] (fun v wx => v = .bool false ∧ Box wx g pa na ∧ Below w.heap.size w wx)
                  case first =>
                    refine wp_region_noPanic ?_
                    refine wp_region_held_drew (S := fun W => W.cell? ⟨g, 0, none⟩ = some (.int .i64 pa) ∧ W.cell? ⟨g, 1, none⟩ = some (.int .i64 na) ∧ W.cell? ⟨bl, o + k * 2, none⟩ = some (.int .i64 pb) ∧ W.cell? ⟨bl, o + k * 2 + 1, none⟩ = some (.int .i64 nb)) (by kernel_rfl) (⟨BX.out.drew.c0, BX.out.drew.c1, (BW.out.drew.cell (lt_of_cell C0.out)).trans C0.out, (BW.out.drew.cell (lt_of_cell C1.out)).trans C1.out⟩) (fun hHeld => ?_)
                    refine wpAnyH_take (i := 0) (oi := ({ dst := some 62, op := Op.move (Operand.tmp 12), type := 3, pos := "runs.go:99", after := #[], guard := none } : Oper)) (v := ?_) rfl (by kernel_rfl) (by kernel_rfl) (by kernel_rfl) (fun _ _ _ h => h) (Or.inl ⟨by rfl, ?_⟩) (by assumption) ?_
                    rotate_left
                    · (intro w hSw; (try dsimp only at hSw); go_simp) <;> with_reducible rfl
                    (try simp only [Act.put, List.setIfInBounds_toArray, List.set_cons_zero, List.set_cons_succ])
                    refine wpAnyH_take (i := 1) (oi := ({ dst := some 63, op := Op.move (Operand.tmp 0), type := 29, pos := "runs.go:99", after := #[], guard := none } : Oper)) (v := ?_) rfl (by kernel_rfl) (by kernel_rfl) (by kernel_rfl) (fun _ _ _ h => h) (Or.inl ⟨by rfl, ?_⟩) (by assumption) ?_
                    rotate_left
                    · (intro w hSw; (try dsimp only at hSw); go_simp) <;> with_reducible rfl
                    (try simp only [Act.put, List.setIfInBounds_toArray, List.set_cons_zero, List.set_cons_succ])
                    refine wpAnyH_take (i := 2) (oi := ({ dst := some 64, op := Op.call { callee := Callee.builtin Builtin.len, args := #[Operand.tmp 63], argTypes := #[29] }, type := 3, pos := "runs.go:99", after := #[{ on := 1, ground := Ground.data }], guard := none } : Oper)) (v := ?_) rfl (by kernel_rfl) (by kernel_rfl) (by kernel_rfl) (fun _ _ _ h => h) (Or.inl ⟨by rfl, ?_⟩) (by assumption) ?_
                    rotate_left
                    · (intro w hSw; (try dsimp only at hSw); go_simp) <;> with_reducible rfl
                    (try simp only [Act.put, List.setIfInBounds_toArray, List.set_cons_zero, List.set_cons_succ])
                    refine wpAnyH_take (i := 3) (oi := ({ dst := some 65, op := Op.binOp BinOp.lss 3 (Operand.tmp 62) (Operand.tmp 64) 3, type := 4, pos := "runs.go:99", after := #[{ on := 0, ground := Ground.data }, { on := 2, ground := Ground.data }], guard := none } : Oper)) (v := ?_) rfl (by kernel_rfl) (by kernel_rfl) (by kernel_rfl) (fun _ _ _ h => h) (Or.inl ⟨by rfl, ?_⟩) (by assumption) ?_
                    rotate_left
                    · (intro w hSw; (try dsimp only at hSw); go_simp) <;> with_reducible rfl
                    (try simp only [Act.put, List.setIfInBounds_toArray, List.set_cons_zero, List.set_cons_succ])
                    refine wpAnyH_take (i := 4) (oi := ({ dst := some 66, op := Op.move (Operand.tmp 65), type := 4, pos := "runs.go:99", after := #[{ on := 3, ground := Ground.data }], guard := none } : Oper)) (v := ?_) rfl (by kernel_rfl) (by kernel_rfl) (by kernel_rfl) (fun _ _ _ h => h) (Or.inl ⟨by rfl, ?_⟩) (by assumption) ?_
                    rotate_left
                    · (intro w hSw; (try dsimp only at hSw); go_simp) <;> with_reducible rfl
                    (try simp only [Act.put, List.setIfInBounds_toArray, List.set_cons_zero, List.set_cons_succ])
                    refine wpAnyH_take (i := 5) (oi := ({ dst := some 67, op := Op.move (Operand.tmp 0), type := 29, pos := "runs.go:99", after := #[{ on := 4, ground := Ground.guard }], guard := some (4, true) } : Oper)) (v := ?_) rfl (by kernel_rfl) (by kernel_rfl) (by kernel_rfl) (fun _ _ _ h => h) (Or.inl ⟨by rfl, ?_⟩) (by assumption) ?_
                    rotate_left
                    · (intro w hSw; (try dsimp only at hSw); go_simp) <;> with_reducible rfl
                    (try simp only [Act.put, List.setIfInBounds_toArray, List.set_cons_zero, List.set_cons_succ])
                    refine wpAnyH_take (i := 6) (oi := ({ dst := some 68, op := Op.move (Operand.tmp 12), type := 3, pos := "runs.go:99", after := #[{ on := 4, ground := Ground.guard }], guard := some (4, true) } : Oper)) (v := ?_) rfl (by kernel_rfl) (by kernel_rfl) (by kernel_rfl) (fun _ _ _ h => h) (Or.inl ⟨by rfl, ?_⟩) (by assumption) ?_
                    rotate_left
                    · (intro w hSw; (try dsimp only at hSw); go_simp) <;> with_reducible rfl
                    (try simp only [Act.put, List.setIfInBounds_toArray, List.set_cons_zero, List.set_cons_succ])
                    refine wpAnyH_take (i := 7) (oi := ({ dst := some 69, op := Op.indexAddr 29 (Operand.tmp 67) (Operand.tmp 68), type := 0, pos := "runs.go:99", after := #[{ on := 5, ground := Ground.data }, { on := 6, ground := Ground.data }, { on := 4, ground := Ground.guard }], guard := some (4, true) } : Oper)) (v := ?_) rfl (by kernel_rfl) (by kernel_rfl) (by kernel_rfl) (fun _ _ _ h => h) (Or.inl ⟨by rfl, ?_⟩) (by assumption) ?_
                    rotate_left
                    · (intro w hSw; (try dsimp only at hSw); go_simp) <;> with_reducible rfl
                    (try simp only [Act.put, List.setIfInBounds_toArray, List.set_cons_zero, List.set_cons_succ])
                    refine wpAnyH_take (i := 8) (oi := ({ dst := some 70, op := Op.fieldAddr 34 (Operand.tmp 69) 0, type := 0, pos := "runs.go:99", after := #[{ on := 7, ground := Ground.data }, { on := 4, ground := Ground.guard }], guard := some (4, true) } : Oper)) (v := ?_) rfl (by kernel_rfl) (by kernel_rfl) (by kernel_rfl) (fun _ _ _ h => h) (Or.inl ⟨by rfl, ?_⟩) (by assumption) ?_
                    rotate_left
                    · (intro w hSw; (try dsimp only at hSw); go_simp) <;> with_reducible rfl
                    (try simp only [Act.put, List.setIfInBounds_toArray, List.set_cons_zero, List.set_cons_succ])
                    refine wpAnyH_take (i := 9) (oi := ({ dst := some 71, op := Op.load 3 (Operand.tmp 70), type := 3, pos := "runs.go:99", after := #[{ on := 8, ground := Ground.data }, { on := 4, ground := Ground.guard }], guard := some (4, true) } : Oper)) (v := ?_) rfl (by kernel_rfl) (by kernel_rfl) (by kernel_rfl) (fun _ _ _ h => h) (Or.inl ⟨by rfl, ?_⟩) (by assumption) ?_
                    rotate_left
                    · (intro w hSw; (try dsimp only at hSw); go_simp) <;> with_reducible rfl
                    (try simp only [Act.put, List.setIfInBounds_toArray, List.set_cons_zero, List.set_cons_succ])
                    refine wpAnyH_take (i := 10) (oi := ({ dst := some 72, op := Op.load 34 (Operand.tmp 10), type := 34, pos := "runs.go:99", after := #[{ on := 4, ground := Ground.guard }], guard := some (4, true) } : Oper)) (v := ?_) rfl (by kernel_rfl) (by kernel_rfl) (by kernel_rfl) (fun _ _ _ h => h) (Or.inl ⟨by rfl, ?_⟩) (by assumption) ?_
                    rotate_left
                    · (intro w hSw; (try dsimp only at hSw); go_simp) <;> with_reducible rfl
                    (try simp only [Act.put, List.setIfInBounds_toArray, List.set_cons_zero, List.set_cons_succ])
                    refine wpAnyH_ready (rs := [11]) (by kernel_rfl) (by simp) ?_
                    refine AllReadyH.cons (o := ({ dst := some 73, op := Op.call { callee := Callee.value (Operand.func 75), args := #[Operand.tmp 72], argTypes := #[34] }, type := 3, pos := "runs.go:99", after := #[{ on := 10, ground := Ground.data }, { on := 4, ground := Ground.chain }, { on := 4, ground := Ground.guard }], guard := some (4, true) } : Oper)) rfl (fun K hK => ?_) ?_
                    · go_simp
                      refine (end_any _ pa na ea HE.out.1 HE.out.2.1 HE.out.2.2).mono ?_
                      rintro e w6 ⟨rfl, hb6⟩
                      have hB6 : Below w.heap.size w w6 := below_call BW.out (below_drewL hb6)
                      have hX6 := BX.out.below (below_drewL hb6)
                      go_wp2_with fail
                      refine hK.out _ _ ?_ (fun hHeld => ?_)
                      · exact ⟨hX6.c0, hX6.c1, (hB6.cell (lt_of_cell C0.out)).trans C0.out, (hB6.cell (lt_of_cell C1.out)).trans C1.out⟩
                      clear hK K
                      (try simp only [Act.put, List.setIfInBounds_toArray, List.set_cons_zero, List.set_cons_succ])
                      refine wpAnyH_take (i := 12) (oi := ({ dst := some 74, op := Op.binOp BinOp.eql 3 (Operand.tmp 71) (Operand.tmp 73) 3, type := 4, pos := "runs.go:99", after := #[{ on := 9, ground := Ground.data }, { on := 11, ground := Ground.data }, { on := 4, ground := Ground.guard }], guard := some (4, true) } : Oper)) (v := ?_) rfl (by kernel_rfl) (by kernel_rfl) (by kernel_rfl) (fun _ _ _ h => h) (Or.inl ⟨by rfl, ?_⟩) (by assumption) ?_
                      rotate_left
                      · (intro w hSw; (try dsimp only at hSw); go_simp) <;> with_reducible rfl
                      (try simp only [Act.put, List.setIfInBounds_toArray, List.set_cons_zero, List.set_cons_succ])
                      refine wpAnyH_take (i := 13) (oi := ({ dst := some 75, op := Op.pick (Operand.tmp 66) (Operand.tmp 74) (Operand.const (Value.bool false)), type := 4, pos := "runs.go:99", after := #[{ on := 4, ground := Ground.data }, { on := 12, ground := Ground.data }], guard := none } : Oper)) (v := ?_) rfl (by kernel_rfl) (by kernel_rfl) (by kernel_rfl) (fun _ _ _ h => h) (Or.inl ⟨by rfl, ?_⟩) (by assumption) ?_
                      rotate_left
                      · (intro w hSw; (try dsimp only at hSw); go_simp) <;> with_reducible rfl
                      (try simp only [Act.put, List.setIfInBounds_toArray, List.set_cons_zero, List.set_cons_succ])
                      refine wpAnyH_done (by kernel_rfl) ?_ _
                      refine NoPanic.normal ?_
                      go_wp2_with fail
                      go_meet
                      exact ⟨by first | rfl | (simp; omega), hX6, hB6⟩
                    exact AllReadyH.nil
                  case rest =>
                    obtain ⟨rfl, bx, bw⟩ := hcut
                    have f0 := bx.c0
                    have f1 := bx.c1
                    have YW := Lib.hid bw
                    clear bx bw d0 d1
                    go_wp2_with (go_at_call 77; refine (changed_put _ (some ⟨bl, o, none⟩) l z c j k (j + 1 + (z - k)) pa na HZ.out (HA.out.below YW.out) hl (by have := HF.out; omega) (by omega) rfl (by omega)).mono ?_; rintro e w9 ⟨A9, c9, rfl, hr9, hb9, hf9⟩)
                    go_ret2
                    refine ⟨A9, j + 1 + (z - k), c9, by rw [HR.out.2]; rfl, ?_, by rw [HR.out.1, HGV.out]; exact hr9, below_call YW.out hb9, hf9.mono YW.out.size⟩
                    have := HZ.out
                    have := HF.out
                    rw [HR.out.1, HGV.out, List.length_append, List.length_take, List.length_cons, List.length_drop]
                    omega
              · have hkl : ¬ k < l.length := by have := HZ.out; omega
                have hgB : M.gB l k ⟨pa, na⟩ = ⟨pa, na⟩ := by unfold M.gB M.jB; simp [hkl]
                have htB : M.toB l k ⟨pa, na⟩ = k := by unfold M.toB M.jB; simp [hkl]
                have HGV := Lib.hid (show M.give l p n = l.take j ++ (⟨pa, na⟩ :: l.drop k) by rw [GV.out, hgB, htB])
                clear hgB htB GV hkl hea
                go_cut [75] (fun v wx => v = .bool false ∧ Box wx g pa na ∧ Below w.heap.size w wx)
                case first =>
                  refine wp_region_noPanic ?_
                  refine wp_region_held_drew (S := fun W => W.cell? ⟨g, 0, none⟩ = some (.int .i64 pa) ∧ W.cell? ⟨g, 1, none⟩ = some (.int .i64 na)) (by kernel_rfl) (⟨BX.out.drew.c0, BX.out.drew.c1⟩) (fun hHeld => ?_)
                  refine wpAnyH_take (i := 0) (oi := ({ dst := some 62, op := Op.move (Operand.tmp 12), type := 3, pos := "runs.go:99", after := #[], guard := none } : Oper)) (v := ?_) rfl (by kernel_rfl) (by kernel_rfl) (by kernel_rfl) (fun _ _ _ h => h) (Or.inl ⟨by rfl, ?_⟩) (by assumption) ?_
                  rotate_left
                  · (intro w hSw; (try dsimp only at hSw); go_simp) <;> with_reducible rfl
                  (try simp only [Act.put, List.setIfInBounds_toArray, List.set_cons_zero, List.set_cons_succ])
                  refine wpAnyH_take (i := 1) (oi := ({ dst := some 63, op := Op.move (Operand.tmp 0), type := 29, pos := "runs.go:99", after := #[], guard := none } : Oper)) (v := ?_) rfl (by kernel_rfl) (by kernel_rfl) (by kernel_rfl) (fun _ _ _ h => h) (Or.inl ⟨by rfl, ?_⟩) (by assumption) ?_
                  rotate_left
                  · (intro w hSw; (try dsimp only at hSw); go_simp) <;> with_reducible rfl
                  (try simp only [Act.put, List.setIfInBounds_toArray, List.set_cons_zero, List.set_cons_succ])
                  refine wpAnyH_take (i := 2) (oi := ({ dst := some 64, op := Op.call { callee := Callee.builtin Builtin.len, args := #[Operand.tmp 63], argTypes := #[29] }, type := 3, pos := "runs.go:99", after := #[{ on := 1, ground := Ground.data }], guard := none } : Oper)) (v := ?_) rfl (by kernel_rfl) (by kernel_rfl) (by kernel_rfl) (fun _ _ _ h => h) (Or.inl ⟨by rfl, ?_⟩) (by assumption) ?_
                  rotate_left
                  · (intro w hSw; (try dsimp only at hSw); go_simp) <;> with_reducible rfl
                  (try simp only [Act.put, List.setIfInBounds_toArray, List.set_cons_zero, List.set_cons_succ])
                  refine wpAnyH_take (i := 3) (oi := ({ dst := some 65, op := Op.binOp BinOp.lss 3 (Operand.tmp 62) (Operand.tmp 64) 3, type := 4, pos := "runs.go:99", after := #[{ on := 0, ground := Ground.data }, { on := 2, ground := Ground.data }], guard := none } : Oper)) (v := ?_) rfl (by kernel_rfl) (by kernel_rfl) (by kernel_rfl) (fun _ _ _ h => h) (Or.inl ⟨by rfl, ?_⟩) (by assumption) ?_
                  rotate_left
                  · (intro w hSw; (try dsimp only at hSw); go_simp) <;> with_reducible rfl
                  (try simp only [Act.put, List.setIfInBounds_toArray, List.set_cons_zero, List.set_cons_succ])
                  refine wpAnyH_take (i := 4) (oi := ({ dst := some 66, op := Op.move (Operand.tmp 65), type := 4, pos := "runs.go:99", after := #[{ on := 3, ground := Ground.data }], guard := none } : Oper)) (v := ?_) rfl (by kernel_rfl) (by kernel_rfl) (by kernel_rfl) (fun _ _ _ h => h) (Or.inl ⟨by rfl, ?_⟩) (by assumption) ?_
                  rotate_left
                  · (intro w hSw; (try dsimp only at hSw); go_simp) <;> with_reducible rfl
                  (try simp only [Act.put, List.setIfInBounds_toArray, List.set_cons_zero, List.set_cons_succ])
                  refine wpAnyH_take (i := 5) (oi := ({ dst := some 67, op := Op.move (Operand.tmp 0), type := 29, pos := "runs.go:99", after := #[{ on := 4, ground := Ground.guard }], guard := some (4, true) } : Oper)) (v := undef) rfl (by kernel_rfl) (by kernel_rfl) (by kernel_rfl) (fun _ _ _ h => h) (Or.inr ⟨by rfl, rfl⟩) (by assumption) ?_
                  (try simp only [Act.put, List.setIfInBounds_toArray, List.set_cons_zero, List.set_cons_succ])
                  refine wpAnyH_take (i := 6) (oi := ({ dst := some 68, op := Op.move (Operand.tmp 12), type := 3, pos := "runs.go:99", after := #[{ on := 4, ground := Ground.guard }], guard := some (4, true) } : Oper)) (v := undef) rfl (by kernel_rfl) (by kernel_rfl) (by kernel_rfl) (fun _ _ _ h => h) (Or.inr ⟨by rfl, rfl⟩) (by assumption) ?_
                  (try simp only [Act.put, List.setIfInBounds_toArray, List.set_cons_zero, List.set_cons_succ])
                  refine wpAnyH_take (i := 7) (oi := ({ dst := some 69, op := Op.indexAddr 29 (Operand.tmp 67) (Operand.tmp 68), type := 0, pos := "runs.go:99", after := #[{ on := 5, ground := Ground.data }, { on := 6, ground := Ground.data }, { on := 4, ground := Ground.guard }], guard := some (4, true) } : Oper)) (v := undef) rfl (by kernel_rfl) (by kernel_rfl) (by kernel_rfl) (fun _ _ _ h => h) (Or.inr ⟨by rfl, rfl⟩) (by assumption) ?_
                  (try simp only [Act.put, List.setIfInBounds_toArray, List.set_cons_zero, List.set_cons_succ])
                  refine wpAnyH_take (i := 8) (oi := ({ dst := some 70, op := Op.fieldAddr 34 (Operand.tmp 69) 0, type := 0, pos := "runs.go:99", after := #[{ on := 7, ground := Ground.data }, { on := 4, ground := Ground.guard }], guard := some (4, true) } : Oper)) (v := undef) rfl (by kernel_rfl) (by kernel_rfl) (by kernel_rfl) (fun _ _ _ h => h) (Or.inr ⟨by rfl, rfl⟩) (by assumption) ?_
                  (try simp only [Act.put, List.setIfInBounds_toArray, List.set_cons_zero, List.set_cons_succ])
                  refine wpAnyH_take (i := 9) (oi := ({ dst := some 71, op := Op.load 3 (Operand.tmp 70), type := 3, pos := "runs.go:99", after := #[{ on := 8, ground := Ground.data }, { on := 4, ground := Ground.guard }], guard := some (4, true) } : Oper)) (v := undef) rfl (by kernel_rfl) (by kernel_rfl) (by kernel_rfl) (fun _ _ _ h => h) (Or.inr ⟨by rfl, rfl⟩) (by assumption) ?_
                  (try simp only [Act.put, List.setIfInBounds_toArray, List.set_cons_zero, List.set_cons_succ])
                  refine wpAnyH_take (i := 10) (oi := ({ dst := some 72, op := Op.load 34 (Operand.tmp 10), type := 34, pos := "runs.go:99", after := #[{ on := 4, ground := Ground.guard }], guard := some (4, true) } : Oper)) (v := undef) rfl (by kernel_rfl) (by kernel_rfl) (by kernel_rfl) (fun _ _ _ h => h) (Or.inr ⟨by rfl, rfl⟩) (by assumption) ?_
                  (try simp only [Act.put, List.setIfInBounds_toArray, List.set_cons_zero, List.set_cons_succ])
                  refine wpAnyH_take (i := 11) (oi := ({ dst := some 73, op := Op.call { callee := Callee.value (Operand.func 75), args := #[Operand.tmp 72], argTypes := #[34] }, type := 3, pos := "runs.go:99", after := #[{ on := 10, ground := Ground.data }, { on := 4, ground := Ground.chain }, { on := 4, ground := Ground.guard }], guard := some (4, true) } : Oper)) (v := undef) rfl (by kernel_rfl) (by kernel_rfl) (by kernel_rfl) (fun _ _ _ h => h) (Or.inr ⟨by rfl, rfl⟩) (by assumption) ?_
                  (try simp only [Act.put, List.setIfInBounds_toArray, List.set_cons_zero, List.set_cons_succ])
                  refine wpAnyH_take (i := 12) (oi := ({ dst := some 74, op := Op.binOp BinOp.eql 3 (Operand.tmp 71) (Operand.tmp 73) 3, type := 4, pos := "runs.go:99", after := #[{ on := 9, ground := Ground.data }, { on := 11, ground := Ground.data }, { on := 4, ground := Ground.guard }], guard := some (4, true) } : Oper)) (v := undef) rfl (by kernel_rfl) (by kernel_rfl) (by kernel_rfl) (fun _ _ _ h => h) (Or.inr ⟨by rfl, rfl⟩) (by assumption) ?_
                  (try simp only [Act.put, List.setIfInBounds_toArray, List.set_cons_zero, List.set_cons_succ])
                  refine wpAnyH_take (i := 13) (oi := ({ dst := some 75, op := Op.pick (Operand.tmp 66) (Operand.tmp 74) (Operand.const (Value.bool false)), type := 4, pos := "runs.go:99", after := #[{ on := 4, ground := Ground.data }, { on := 12, ground := Ground.data }], guard := none } : Oper)) (v := ?_) rfl (by kernel_rfl) (by kernel_rfl) (by kernel_rfl) (fun _ _ _ h => h) (Or.inl ⟨by rfl, ?_⟩) (by assumption) ?_
                  rotate_left
                  · (intro w hSw; (try dsimp only at hSw); go_simp) <;> with_reducible rfl
                  (try simp only [Act.put, List.setIfInBounds_toArray, List.set_cons_zero, List.set_cons_succ])
                  refine wpAnyH_done (by kernel_rfl) ?_ _
                  refine NoPanic.normal ?_
                  go_wp2_with fail
                  go_meet
                  exact ⟨by first | rfl | (simp; omega), BX.out.drew, BW.out.drew⟩
                case rest =>
                  obtain ⟨rfl, bx, bw⟩ := hcut
                  have f0 := bx.c0
                  have f1 := bx.c1
                  have YW := Lib.hid bw
                  clear bx bw
                  go_wp2_with (go_at_call 77; refine (changed_put _ (some ⟨bl, o, none⟩) l z c j k (j + 1 + (z - k)) pa na HZ.out (HA.out.below YW.out) hl (by have := HF.out; omega) (by omega) rfl (by omega)).mono ?_; rintro e w9 ⟨A9, c9, rfl, hr9, hb9, hf9⟩)
                  go_ret2
                  refine ⟨A9, j + 1 + (z - k), c9, by rw [HR.out.2]; rfl, ?_, by rw [HR.out.1, HGV.out]; exact hr9, below_call YW.out hb9, hf9.mono YW.out.size⟩
                  have := HZ.out
                  have := HF.out
                  rw [HR.out.1, HGV.out, List.length_append, List.length_take, List.length_cons, List.length_drop]
                  omega
          · rw [if_neg tA] at hfA hgA
            have GV := Lib.hid (show M.give l p n = l.take k ++ (M.gB l k ⟨p, n⟩ :: l.drop (M.toB l k ⟨p, n⟩)) by rw [hgive, hfA, hgA])
            clear HF hgive hfA hgA bj hs
            have HF := Lib.hid (show k ≤ k ∧ True from ⟨Nat.le_refl _, trivial⟩)
            go_wp2_with (go_at_call 75; refine (end_any _ pa nj s HS.out.1 HS.out.2.1 HS.out.2.2).mono ?_; rintro e w5 ⟨rfl, hb5⟩; (have B5 := Lib.hid (below_call BW.out hb5)); (have X5 := Lib.hid (BX.out.below hb5)); clear hb5)
            clear BW BX C0 C1 d0 d1 HS tA
            have BW := B5
            have BX := X5
            clear B5 X5
            obtain ⟨ea, hea⟩ : ∃ ea, p + n = ea := ⟨_, rfl⟩
            have HE := Lib.hid (show p + n = ea ∧ -9223372036854775808 ≤ ea ∧ ea ≤ 9223372036854775807 from ⟨hea, by omega, by omega⟩)
            by_cases hkz2 : k < z
            · have hkl : k < l.length := by have := HZ.out; omega
              have hc := HCC.out
              have hgd := M.getD_at l k hkl
              have bk := ok_at HO.out k hkl
              have c0 := (hc k hkl).1
              have c1 := (hc k hkl).2
              have hgB : M.gB l k ⟨p, n⟩ = if l[k].p = ea then ⟨p, n + l[k].n⟩ else ⟨p, n⟩ := by
                unfold M.gB M.jB
                simp only [hgd, hkl, hea, decide_true, Bool.true_and, decide_eq_true_eq]
              have htB : M.toB l k ⟨p, n⟩ = if l[k].p = ea then k + 1 else k := by
                unfold M.toB M.jB
                simp only [hgd, hkl, hea, decide_true, Bool.true_and, decide_eq_true_eq]
              obtain ⟨pb, hpb⟩ : ∃ pb, pb = l[k].p := ⟨_, rfl⟩
              obtain ⟨nb, hnb⟩ : ∃ nb, nb = l[k].n := ⟨_, rfl⟩
              rw [← hpb] at c0 bk hgB htB
              rw [← hnb] at c1 bk hgB
              have C0 := Lib.hid c0
              have C1 := Lib.hid c1
              have d0 := (BW.out.cell (lt_of_cell c0)).trans c0
              have d1 := (BW.out.cell (lt_of_cell c1)).trans c1
              clear hc hgd hpb hnb c0 c1 hkl hea
              by_cases tB : pb = ea
              · rw [if_pos tB] at hgB htB
                have HGV := Lib.hid (show M.give l p n = l.take k ++ (⟨p, n + nb⟩ :: l.drop (k + 1)) by rw [GV.out, hgB, htB])
                obtain ⟨nc, hnc⟩ : ∃ nc, n + nb = nc := ⟨_, rfl⟩
                rw [hnc] at HGV
                have HJ := Lib.hid (show n + nb = nc ∧ -9223372036854775808 ≤ nc ∧ nc ≤ 9223372036854775807 from ⟨hnc, by omega, by omega⟩)
                have hnc1 : 1 ≤ nc := by omega
                clear hgB htB GV bk hnc
                go_cut [75] (fun v wx => v = .bool true ∧ Box wx g p n ∧ Below w.heap.size w wx)
                case first =>
                  refine wp_region_noPanic ?_
                  refine wp_region_held_drew (S := fun W => W.cell? ⟨g, 0, none⟩ = some (.int .i64 p) ∧ W.cell? ⟨g, 1, none⟩ = some (.int .i64 n) ∧ W.cell? ⟨bl, o + k * 2, none⟩ = some (.int .i64 pb) ∧ W.cell? ⟨bl, o + k * 2 + 1, none⟩ = some (.int .i64 nb)) (by kernel_rfl) (⟨BX.out.drew.c0, BX.out.drew.c1, (BW.out.drew.cell (lt_of_cell C0.out)).trans C0.out, (BW.out.drew.cell (lt_of_cell C1.out)).trans C1.out⟩) (fun hHeld => ?_)
                  refine wpAnyH_take (i := 0) (oi := ({ dst := some 62, op := Op.move (Operand.tmp 12), type := 3, pos := "runs.go:99", after := #[], guard := none } : Oper)) (v := ?_) rfl (by kernel_rfl) (by kernel_rfl) (by kernel_rfl) (fun _ _ _ h => h) (Or.inl ⟨by rfl, ?_⟩) (by assumption) ?_
                  rotate_left
                  · (intro w hSw; (try dsimp only at hSw); go_simp) <;> with_reducible rfl
                  (try simp only [Act.put, List.setIfInBounds_toArray, List.set_cons_zero, List.set_cons_succ])
                  refine wpAnyH_take (i := 1) (oi := ({ dst := some 63, op := Op.move (Operand.tmp 0), type := 29, pos := "runs.go:99", after := #[], guard := none } : Oper)) (v := ?_) rfl (by kernel_rfl) (by kernel_rfl) (by kernel_rfl) (fun _ _ _ h => h) (Or.inl ⟨by rfl, ?_⟩) (by assumption) ?_
                  rotate_left
                  · (intro w hSw; (try dsimp only at hSw); go_simp) <;> with_reducible rfl
                  (try simp only [Act.put, List.setIfInBounds_toArray, List.set_cons_zero, List.set_cons_succ])
                  refine wpAnyH_take (i := 2) (oi := ({ dst := some 64, op := Op.call { callee := Callee.builtin Builtin.len, args := #[Operand.tmp 63], argTypes := #[29] }, type := 3, pos := "runs.go:99", after := #[{ on := 1, ground := Ground.data }], guard := none } : Oper)) (v := ?_) rfl (by kernel_rfl) (by kernel_rfl) (by kernel_rfl) (fun _ _ _ h => h) (Or.inl ⟨by rfl, ?_⟩) (by assumption) ?_
                  rotate_left
                  · (intro w hSw; (try dsimp only at hSw); go_simp) <;> with_reducible rfl
                  (try simp only [Act.put, List.setIfInBounds_toArray, List.set_cons_zero, List.set_cons_succ])
                  refine wpAnyH_take (i := 3) (oi := ({ dst := some 65, op := Op.binOp BinOp.lss 3 (Operand.tmp 62) (Operand.tmp 64) 3, type := 4, pos := "runs.go:99", after := #[{ on := 0, ground := Ground.data }, { on := 2, ground := Ground.data }], guard := none } : Oper)) (v := ?_) rfl (by kernel_rfl) (by kernel_rfl) (by kernel_rfl) (fun _ _ _ h => h) (Or.inl ⟨by rfl, ?_⟩) (by assumption) ?_
                  rotate_left
                  · (intro w hSw; (try dsimp only at hSw); go_simp) <;> with_reducible rfl
                  (try simp only [Act.put, List.setIfInBounds_toArray, List.set_cons_zero, List.set_cons_succ])
                  refine wpAnyH_take (i := 4) (oi := ({ dst := some 66, op := Op.move (Operand.tmp 65), type := 4, pos := "runs.go:99", after := #[{ on := 3, ground := Ground.data }], guard := none } : Oper)) (v := ?_) rfl (by kernel_rfl) (by kernel_rfl) (by kernel_rfl) (fun _ _ _ h => h) (Or.inl ⟨by rfl, ?_⟩) (by assumption) ?_
                  rotate_left
                  · (intro w hSw; (try dsimp only at hSw); go_simp) <;> with_reducible rfl
                  (try simp only [Act.put, List.setIfInBounds_toArray, List.set_cons_zero, List.set_cons_succ])
                  refine wpAnyH_take (i := 5) (oi := ({ dst := some 67, op := Op.move (Operand.tmp 0), type := 29, pos := "runs.go:99", after := #[{ on := 4, ground := Ground.guard }], guard := some (4, true) } : Oper)) (v := ?_) rfl (by kernel_rfl) (by kernel_rfl) (by kernel_rfl) (fun _ _ _ h => h) (Or.inl ⟨by rfl, ?_⟩) (by assumption) ?_
                  rotate_left
                  · (intro w hSw; (try dsimp only at hSw); go_simp) <;> with_reducible rfl
                  (try simp only [Act.put, List.setIfInBounds_toArray, List.set_cons_zero, List.set_cons_succ])
                  refine wpAnyH_take (i := 6) (oi := ({ dst := some 68, op := Op.move (Operand.tmp 12), type := 3, pos := "runs.go:99", after := #[{ on := 4, ground := Ground.guard }], guard := some (4, true) } : Oper)) (v := ?_) rfl (by kernel_rfl) (by kernel_rfl) (by kernel_rfl) (fun _ _ _ h => h) (Or.inl ⟨by rfl, ?_⟩) (by assumption) ?_
                  rotate_left
                  · (intro w hSw; (try dsimp only at hSw); go_simp) <;> with_reducible rfl
                  (try simp only [Act.put, List.setIfInBounds_toArray, List.set_cons_zero, List.set_cons_succ])
                  refine wpAnyH_take (i := 7) (oi := ({ dst := some 69, op := Op.indexAddr 29 (Operand.tmp 67) (Operand.tmp 68), type := 0, pos := "runs.go:99", after := #[{ on := 5, ground := Ground.data }, { on := 6, ground := Ground.data }, { on := 4, ground := Ground.guard }], guard := some (4, true) } : Oper)) (v := ?_) rfl (by kernel_rfl) (by kernel_rfl) (by kernel_rfl) (fun _ _ _ h => h) (Or.inl ⟨by rfl, ?_⟩) (by assumption) ?_
                  rotate_left
                  · (intro w hSw; (try dsimp only at hSw); go_simp) <;> with_reducible rfl
                  (try simp only [Act.put, List.setIfInBounds_toArray, List.set_cons_zero, List.set_cons_succ])
                  refine wpAnyH_take (i := 8) (oi := ({ dst := some 70, op := Op.fieldAddr 34 (Operand.tmp 69) 0, type := 0, pos := "runs.go:99", after := #[{ on := 7, ground := Ground.data }, { on := 4, ground := Ground.guard }], guard := some (4, true) } : Oper)) (v := ?_) rfl (by kernel_rfl) (by kernel_rfl) (by kernel_rfl) (fun _ _ _ h => h) (Or.inl ⟨by rfl, ?_⟩) (by assumption) ?_
                  rotate_left
                  · (intro w hSw; (try dsimp only at hSw); go_simp) <;> with_reducible rfl
                  (try simp only [Act.put, List.setIfInBounds_toArray, List.set_cons_zero, List.set_cons_succ])
                  refine wpAnyH_take (i := 9) (oi := ({ dst := some 71, op := Op.load 3 (Operand.tmp 70), type := 3, pos := "runs.go:99", after := #[{ on := 8, ground := Ground.data }, { on := 4, ground := Ground.guard }], guard := some (4, true) } : Oper)) (v := ?_) rfl (by kernel_rfl) (by kernel_rfl) (by kernel_rfl) (fun _ _ _ h => h) (Or.inl ⟨by rfl, ?_⟩) (by assumption) ?_
                  rotate_left
                  · (intro w hSw; (try dsimp only at hSw); go_simp) <;> with_reducible rfl
                  (try simp only [Act.put, List.setIfInBounds_toArray, List.set_cons_zero, List.set_cons_succ])
                  refine wpAnyH_take (i := 10) (oi := ({ dst := some 72, op := Op.load 34 (Operand.tmp 10), type := 34, pos := "runs.go:99", after := #[{ on := 4, ground := Ground.guard }], guard := some (4, true) } : Oper)) (v := ?_) rfl (by kernel_rfl) (by kernel_rfl) (by kernel_rfl) (fun _ _ _ h => h) (Or.inl ⟨by rfl, ?_⟩) (by assumption) ?_
                  rotate_left
                  · (intro w hSw; (try dsimp only at hSw); go_simp) <;> with_reducible rfl
                  (try simp only [Act.put, List.setIfInBounds_toArray, List.set_cons_zero, List.set_cons_succ])
                  refine wpAnyH_ready (rs := [11]) (by kernel_rfl) (by simp) ?_
                  refine AllReadyH.cons (o := ({ dst := some 73, op := Op.call { callee := Callee.value (Operand.func 75), args := #[Operand.tmp 72], argTypes := #[34] }, type := 3, pos := "runs.go:99", after := #[{ on := 10, ground := Ground.data }, { on := 4, ground := Ground.chain }, { on := 4, ground := Ground.guard }], guard := some (4, true) } : Oper)) rfl (fun K hK => ?_) ?_
                  · go_simp
                    refine (end_any _ p n ea HE.out.1 HE.out.2.1 HE.out.2.2).mono ?_
                    rintro e w6 ⟨rfl, hb6⟩
                    have hB6 : Below w.heap.size w w6 := below_call BW.out (below_drewL hb6)
                    have hX6 := BX.out.below (below_drewL hb6)
                    go_wp2_with fail
                    refine hK.out _ _ ?_ (fun hHeld => ?_)
                    · exact ⟨hX6.c0, hX6.c1, (hB6.cell (lt_of_cell C0.out)).trans C0.out, (hB6.cell (lt_of_cell C1.out)).trans C1.out⟩
                    clear hK K
                    (try simp only [Act.put, List.setIfInBounds_toArray, List.set_cons_zero, List.set_cons_succ])
                    refine wpAnyH_take (i := 12) (oi := ({ dst := some 74, op := Op.binOp BinOp.eql 3 (Operand.tmp 71) (Operand.tmp 73) 3, type := 4, pos := "runs.go:99", after := #[{ on := 9, ground := Ground.data }, { on := 11, ground := Ground.data }, { on := 4, ground := Ground.guard }], guard := some (4, true) } : Oper)) (v := ?_) rfl (by kernel_rfl) (by kernel_rfl) (by kernel_rfl) (fun _ _ _ h => h) (Or.inl ⟨by rfl, ?_⟩) (by assumption) ?_
                    rotate_left
                    · (intro w hSw; (try dsimp only at hSw); go_simp) <;> with_reducible rfl
                    (try simp only [Act.put, List.setIfInBounds_toArray, List.set_cons_zero, List.set_cons_succ])
                    refine wpAnyH_take (i := 13) (oi := ({ dst := some 75, op := Op.pick (Operand.tmp 66) (Operand.tmp 74) (Operand.const (Value.bool false)), type := 4, pos := "runs.go:99", after := #[{ on := 4, ground := Ground.data }, { on := 12, ground := Ground.data }], guard := none } : Oper)) (v := ?_) rfl (by kernel_rfl) (by kernel_rfl) (by kernel_rfl) (fun _ _ _ h => h) (Or.inl ⟨by rfl, ?_⟩) (by assumption) ?_
                    rotate_left
                    · (intro w hSw; (try dsimp only at hSw); go_simp) <;> with_reducible rfl
                    (try simp only [Act.put, List.setIfInBounds_toArray, List.set_cons_zero, List.set_cons_succ])
                    refine wpAnyH_done (by kernel_rfl) ?_ _
                    refine NoPanic.normal ?_
                    go_wp2_with fail
                    go_meet
                    exact ⟨by first | rfl | (simp; omega), hX6, hB6⟩
                  exact AllReadyH.nil
                case rest =>
                  obtain ⟨rfl, bx, bw⟩ := hcut
                  have BX := Lib.hid bx
                  have BW := Lib.hid bw
                  have d0 := (bw.cell (lt_of_cell C0.out)).trans C0.out
                  have d1 := (bw.cell (lt_of_cell C1.out)).trans C1.out
                  have e0 := bx.c0
                  have e1 := bx.c1
                  clear bx bw
                  go_wp2_with fail
                  go_cut [] (fun wx => Box wx g p nc ∧ Below w.heap.size w wx)
                  case first =>
                    refine wp_region_noPanic ?_
                    refine wp_region_held_drew (S := fun _ => True) (by kernel_rfl) (trivial) (fun hHeld => ?_)
                    refine wpAnyH_take (i := 1) (oi := ({ dst := some 77, op := Op.move (Operand.tmp 0), type := 29, pos := "runs.go:100", after := #[], guard := none } : Oper)) (v := ?_) rfl (by kernel_rfl) (by kernel_rfl) (by kernel_rfl) (fun _ _ _ h => h) (Or.inl ⟨by rfl, ?_⟩) (by assumption) ?_
                    rotate_left
                    · (intro w hSw; (try dsimp only at hSw); go_simp) <;> with_reducible rfl
                    (try simp only [Act.put, List.setIfInBounds_toArray, List.set_cons_zero, List.set_cons_succ])
                    refine wpAnyH_take (i := 2) (oi := ({ dst := some 78, op := Op.move (Operand.tmp 12), type := 3, pos := "runs.go:100", after := #[], guard := none } : Oper)) (v := ?_) rfl (by kernel_rfl) (by kernel_rfl) (by kernel_rfl) (fun _ _ _ h => h) (Or.inl ⟨by rfl, ?_⟩) (by assumption) ?_
                    rotate_left
                    · (intro w hSw; (try dsimp only at hSw); go_simp) <;> with_reducible rfl
                    (try simp only [Act.put, List.setIfInBounds_toArray, List.set_cons_zero, List.set_cons_succ])
                    refine wpAnyH_take (i := 3) (oi := ({ dst := some 79, op := Op.indexAddr 29 (Operand.tmp 77) (Operand.tmp 78), type := 0, pos := "runs.go:100", after := #[{ on := 1, ground := Ground.data }, { on := 2, ground := Ground.data }], guard := none } : Oper)) (v := ?_) rfl (by kernel_rfl) (by kernel_rfl) (by kernel_rfl) (fun _ _ _ h => h) (Or.inl ⟨by rfl, ?_⟩) (by assumption) ?_
                    rotate_left
                    · (intro w hSw; (try dsimp only at hSw); go_simp) <;> with_reducible rfl
                    (try simp only [Act.put, List.setIfInBounds_toArray, List.set_cons_zero, List.set_cons_succ])
                    refine wpAnyH_ready (rs := [0, 4]) (by kernel_rfl) (by simp) ?_
                    refine AllReadyH.cons (o := ({ dst := some 76, op := Op.load 34 (Operand.tmp 10), type := 34, pos := "runs.go:100", after := #[], guard := none } : Oper)) rfl (fun K hK => ?_) ?_
                    · go_simp
                      refine hK.out _ _ ?_ (fun hHeld => ?_)
                      · trivial
                      clear hK K
                      (try simp only [Act.put, List.setIfInBounds_toArray, List.set_cons_zero, List.set_cons_succ])
                      refine wpAnyH_ready (rs := [4]) (by kernel_rfl) (by simp) ?_
                      refine AllReadyH.cons (o := ({ dst := some 80, op := Op.load 34 (Operand.tmp 79), type := 34, pos := "runs.go:100", after := #[{ on := 3, ground := Ground.data }], guard := none } : Oper)) rfl (fun K hK => ?_) ?_
                      · go_simp
                        refine hK.out _ _ ?_ (fun hHeld => ?_)
                        · trivial
                        clear hK K
                        (try simp only [Act.put, List.setIfInBounds_toArray, List.set_cons_zero, List.set_cons_succ])
                        refine wpAnyH_ready (rs := [5]) (by kernel_rfl) (by simp) ?_
                        refine AllReadyH.cons (o := ({ dst := some 81, op := Op.call { callee := Callee.value (Operand.func 76), args := #[Operand.tmp 76, Operand.tmp 80], argTypes := #[34, 34] }, type := 34, pos := "runs.go:100", after := #[{ on := 0, ground := Ground.data }, { on := 4, ground := Ground.data }], guard := none } : Oper)) rfl (fun K hK => ?_) ?_
                        · go_simp
                          refine (joined_any _ p n _ nb nc HJ.out.1 HJ.out.2.1 HJ.out.2.2).mono ?_
                          rintro e w6 ⟨rfl, hb6⟩
                          have hB6 : Below w.heap.size w w6 := below_call BW.out (below_drewL hb6)
                          have x6 := BX.out.below (below_drewL hb6)
                          have r0 := x6.c0
                          have r1 := x6.c1
                          have r2 := x6.f0
                          have r3 := x6.f1
                          have X6 := Lib.hid x6
                          clear x6
                          go_wp2_with fail
                          refine hK.out _ _ ?_ (fun hHeld => ?_)
                          · trivial
                          clear hK K
                          (try simp only [Act.put, List.setIfInBounds_toArray, List.set_cons_zero, List.set_cons_succ])
                          refine wpAnyH_ready (rs := [6]) (by kernel_rfl) (by simp) ?_
                          refine AllReadyH.cons (o := ({ dst := none, op := Op.store 34 (Operand.tmp 10) (Operand.tmp 81), type := 0, pos := "runs.go:100", after := #[{ on := 5, ground := Ground.data }, { on := 5, ground := Ground.chain }, { on := 0, ground := Ground.phase }, { on := 1, ground := Ground.phase }, { on := 2, ground := Ground.phase }, { on := 3, ground := Ground.phase }, { on := 4, ground := Ground.phase }, { on := 5, ground := Ground.phase }], guard := none } : Oper)) rfl (fun K hK => ?_) ?_
                          · go_simp
                            refine hK.out _ _ ?_ (fun hHeld => ?_)
                            · trivial
                            clear hK K
                            (try simp only [Act.put, List.setIfInBounds_toArray, List.set_cons_zero, List.set_cons_succ])
                            refine wpAnyH_done (by kernel_rfl) ?_ _
                            refine NoPanic.normal ?_
                            go_wp2_with fail
                            go_meet
                            exact ⟨X6.out.set p nc, below_set hB6 HGW.out _ _⟩
                          exact AllReadyH.nil
                        exact AllReadyH.nil
                      exact AllReadyH.nil
                    refine AllReadyH.cons (o := ({ dst := some 80, op := Op.load 34 (Operand.tmp 79), type := 34, pos := "runs.go:100", after := #[{ on := 3, ground := Ground.data }], guard := none } : Oper)) rfl (fun K hK => ?_) ?_
                    · go_simp
                      refine hK.out _ _ ?_ (fun hHeld => ?_)
                      · trivial
                      clear hK K
                      (try simp only [Act.put, List.setIfInBounds_toArray, List.set_cons_zero, List.set_cons_succ])
                      refine wpAnyH_ready (rs := [0]) (by kernel_rfl) (by simp) ?_
                      refine AllReadyH.cons (o := ({ dst := some 76, op := Op.load 34 (Operand.tmp 10), type := 34, pos := "runs.go:100", after := #[], guard := none } : Oper)) rfl (fun K hK => ?_) ?_
                      · go_simp
                        refine hK.out _ _ ?_ (fun hHeld => ?_)
                        · trivial
                        clear hK K
                        (try simp only [Act.put, List.setIfInBounds_toArray, List.set_cons_zero, List.set_cons_succ])
                        refine wpAnyH_ready (rs := [5]) (by kernel_rfl) (by simp) ?_
                        refine AllReadyH.cons (o := ({ dst := some 81, op := Op.call { callee := Callee.value (Operand.func 76), args := #[Operand.tmp 76, Operand.tmp 80], argTypes := #[34, 34] }, type := 34, pos := "runs.go:100", after := #[{ on := 0, ground := Ground.data }, { on := 4, ground := Ground.data }], guard := none } : Oper)) rfl (fun K hK => ?_) ?_
                        · go_simp
                          refine (joined_any _ p n _ nb nc HJ.out.1 HJ.out.2.1 HJ.out.2.2).mono ?_
                          rintro e w6 ⟨rfl, hb6⟩
                          have hB6 : Below w.heap.size w w6 := below_call BW.out (below_drewL hb6)
                          have x6 := BX.out.below (below_drewL hb6)
                          have r0 := x6.c0
                          have r1 := x6.c1
                          have r2 := x6.f0
                          have r3 := x6.f1
                          have X6 := Lib.hid x6
                          clear x6
                          go_wp2_with fail
                          refine hK.out _ _ ?_ (fun hHeld => ?_)
                          · trivial
                          clear hK K
                          (try simp only [Act.put, List.setIfInBounds_toArray, List.set_cons_zero, List.set_cons_succ])
                          refine wpAnyH_ready (rs := [6]) (by kernel_rfl) (by simp) ?_
                          refine AllReadyH.cons (o := ({ dst := none, op := Op.store 34 (Operand.tmp 10) (Operand.tmp 81), type := 0, pos := "runs.go:100", after := #[{ on := 5, ground := Ground.data }, { on := 5, ground := Ground.chain }, { on := 0, ground := Ground.phase }, { on := 1, ground := Ground.phase }, { on := 2, ground := Ground.phase }, { on := 3, ground := Ground.phase }, { on := 4, ground := Ground.phase }, { on := 5, ground := Ground.phase }], guard := none } : Oper)) rfl (fun K hK => ?_) ?_
                          · go_simp
                            refine hK.out _ _ ?_ (fun hHeld => ?_)
                            · trivial
                            clear hK K
                            (try simp only [Act.put, List.setIfInBounds_toArray, List.set_cons_zero, List.set_cons_succ])
                            refine wpAnyH_done (by kernel_rfl) ?_ _
                            refine NoPanic.normal ?_
                            go_wp2_with fail
                            go_meet
                            exact ⟨X6.out.set p nc, below_set hB6 HGW.out _ _⟩
                          exact AllReadyH.nil
                        exact AllReadyH.nil
                      exact AllReadyH.nil
                    exact AllReadyH.nil
                  case rest =>
                    obtain ⟨bx, bw⟩ := hcut
                    have f0 := bx.c0
                    have f1 := bx.c1
                    have YW := Lib.hid bw
                    clear bx bw d0 d1 e0 e1
                    go_wp2_with (go_at_call 77; refine (changed_put _ (some ⟨bl, o, none⟩) l z c k (k + 1) (k + 1 + (z - (k + 1))) p nc HZ.out (HA.out.below YW.out) hl (by have := HF.out; omega) (by omega) rfl (by omega)).mono ?_; rintro e w9 ⟨A9, c9, rfl, hr9, hb9, hf9⟩)
                    go_ret2
                    refine ⟨A9, k + 1 + (z - (k + 1)), c9, by rw [HR.out.2]; rfl, ?_, by rw [HR.out.1, HGV.out]; exact hr9, below_call YW.out hb9, hf9.mono YW.out.size⟩
                    have := HZ.out
                    have := HF.out
                    rw [HR.out.1, HGV.out, List.length_append, List.length_take, List.length_cons, List.length_drop]
                    omega
              · rw [if_neg tB] at hgB htB
                have HGV := Lib.hid (show M.give l p n = l.take k ++ (⟨p, n⟩ :: l.drop k) by rw [GV.out, hgB, htB])
                clear hgB htB GV bk
                go_cut [75] (fun v wx => v = .bool false ∧ Box wx g p n ∧ Below w.heap.size w wx)
                case first =>
                  refine wp_region_noPanic ?_
                  refine wp_region_held_drew (S := fun W => W.cell? ⟨g, 0, none⟩ = some (.int .i64 p) ∧ W.cell? ⟨g, 1, none⟩ = some (.int .i64 n) ∧ W.cell? ⟨bl, o + k * 2, none⟩ = some (.int .i64 pb) ∧ W.cell? ⟨bl, o + k * 2 + 1, none⟩ = some (.int .i64 nb)) (by kernel_rfl) (⟨BX.out.drew.c0, BX.out.drew.c1, (BW.out.drew.cell (lt_of_cell C0.out)).trans C0.out, (BW.out.drew.cell (lt_of_cell C1.out)).trans C1.out⟩) (fun hHeld => ?_)
                  refine wpAnyH_take (i := 0) (oi := ({ dst := some 62, op := Op.move (Operand.tmp 12), type := 3, pos := "runs.go:99", after := #[], guard := none } : Oper)) (v := ?_) rfl (by kernel_rfl) (by kernel_rfl) (by kernel_rfl) (fun _ _ _ h => h) (Or.inl ⟨by rfl, ?_⟩) (by assumption) ?_
                  rotate_left
                  · (intro w hSw; (try dsimp only at hSw); go_simp) <;> with_reducible rfl
                  (try simp only [Act.put, List.setIfInBounds_toArray, List.set_cons_zero, List.set_cons_succ])
                  refine wpAnyH_take (i := 1) (oi := ({ dst := some 63, op := Op.move (Operand.tmp 0), type := 29, pos := "runs.go:99", after := #[], guard := none } : Oper)) (v := ?_) rfl (by kernel_rfl) (by kernel_rfl) (by kernel_rfl) (fun _ _ _ h => h) (Or.inl ⟨by rfl, ?_⟩) (by assumption) ?_
                  rotate_left
                  · (intro w hSw; (try dsimp only at hSw); go_simp) <;> with_reducible rfl
                  (try simp only [Act.put, List.setIfInBounds_toArray, List.set_cons_zero, List.set_cons_succ])
                  refine wpAnyH_take (i := 2) (oi := ({ dst := some 64, op := Op.call { callee := Callee.builtin Builtin.len, args := #[Operand.tmp 63], argTypes := #[29] }, type := 3, pos := "runs.go:99", after := #[{ on := 1, ground := Ground.data }], guard := none } : Oper)) (v := ?_) rfl (by kernel_rfl) (by kernel_rfl) (by kernel_rfl) (fun _ _ _ h => h) (Or.inl ⟨by rfl, ?_⟩) (by assumption) ?_
                  rotate_left
                  · (intro w hSw; (try dsimp only at hSw); go_simp) <;> with_reducible rfl
                  (try simp only [Act.put, List.setIfInBounds_toArray, List.set_cons_zero, List.set_cons_succ])
                  refine wpAnyH_take (i := 3) (oi := ({ dst := some 65, op := Op.binOp BinOp.lss 3 (Operand.tmp 62) (Operand.tmp 64) 3, type := 4, pos := "runs.go:99", after := #[{ on := 0, ground := Ground.data }, { on := 2, ground := Ground.data }], guard := none } : Oper)) (v := ?_) rfl (by kernel_rfl) (by kernel_rfl) (by kernel_rfl) (fun _ _ _ h => h) (Or.inl ⟨by rfl, ?_⟩) (by assumption) ?_
                  rotate_left
                  · (intro w hSw; (try dsimp only at hSw); go_simp) <;> with_reducible rfl
                  (try simp only [Act.put, List.setIfInBounds_toArray, List.set_cons_zero, List.set_cons_succ])
                  refine wpAnyH_take (i := 4) (oi := ({ dst := some 66, op := Op.move (Operand.tmp 65), type := 4, pos := "runs.go:99", after := #[{ on := 3, ground := Ground.data }], guard := none } : Oper)) (v := ?_) rfl (by kernel_rfl) (by kernel_rfl) (by kernel_rfl) (fun _ _ _ h => h) (Or.inl ⟨by rfl, ?_⟩) (by assumption) ?_
                  rotate_left
                  · (intro w hSw; (try dsimp only at hSw); go_simp) <;> with_reducible rfl
                  (try simp only [Act.put, List.setIfInBounds_toArray, List.set_cons_zero, List.set_cons_succ])
                  refine wpAnyH_take (i := 5) (oi := ({ dst := some 67, op := Op.move (Operand.tmp 0), type := 29, pos := "runs.go:99", after := #[{ on := 4, ground := Ground.guard }], guard := some (4, true) } : Oper)) (v := ?_) rfl (by kernel_rfl) (by kernel_rfl) (by kernel_rfl) (fun _ _ _ h => h) (Or.inl ⟨by rfl, ?_⟩) (by assumption) ?_
                  rotate_left
                  · (intro w hSw; (try dsimp only at hSw); go_simp) <;> with_reducible rfl
                  (try simp only [Act.put, List.setIfInBounds_toArray, List.set_cons_zero, List.set_cons_succ])
                  refine wpAnyH_take (i := 6) (oi := ({ dst := some 68, op := Op.move (Operand.tmp 12), type := 3, pos := "runs.go:99", after := #[{ on := 4, ground := Ground.guard }], guard := some (4, true) } : Oper)) (v := ?_) rfl (by kernel_rfl) (by kernel_rfl) (by kernel_rfl) (fun _ _ _ h => h) (Or.inl ⟨by rfl, ?_⟩) (by assumption) ?_
                  rotate_left
                  · (intro w hSw; (try dsimp only at hSw); go_simp) <;> with_reducible rfl
                  (try simp only [Act.put, List.setIfInBounds_toArray, List.set_cons_zero, List.set_cons_succ])
                  refine wpAnyH_take (i := 7) (oi := ({ dst := some 69, op := Op.indexAddr 29 (Operand.tmp 67) (Operand.tmp 68), type := 0, pos := "runs.go:99", after := #[{ on := 5, ground := Ground.data }, { on := 6, ground := Ground.data }, { on := 4, ground := Ground.guard }], guard := some (4, true) } : Oper)) (v := ?_) rfl (by kernel_rfl) (by kernel_rfl) (by kernel_rfl) (fun _ _ _ h => h) (Or.inl ⟨by rfl, ?_⟩) (by assumption) ?_
                  rotate_left
                  · (intro w hSw; (try dsimp only at hSw); go_simp) <;> with_reducible rfl
                  (try simp only [Act.put, List.setIfInBounds_toArray, List.set_cons_zero, List.set_cons_succ])
                  refine wpAnyH_take (i := 8) (oi := ({ dst := some 70, op := Op.fieldAddr 34 (Operand.tmp 69) 0, type := 0, pos := "runs.go:99", after := #[{ on := 7, ground := Ground.data }, { on := 4, ground := Ground.guard }], guard := some (4, true) } : Oper)) (v := ?_) rfl (by kernel_rfl) (by kernel_rfl) (by kernel_rfl) (fun _ _ _ h => h) (Or.inl ⟨by rfl, ?_⟩) (by assumption) ?_
                  rotate_left
                  · (intro w hSw; (try dsimp only at hSw); go_simp) <;> with_reducible rfl
                  (try simp only [Act.put, List.setIfInBounds_toArray, List.set_cons_zero, List.set_cons_succ])
                  refine wpAnyH_take (i := 9) (oi := ({ dst := some 71, op := Op.load 3 (Operand.tmp 70), type := 3, pos := "runs.go:99", after := #[{ on := 8, ground := Ground.data }, { on := 4, ground := Ground.guard }], guard := some (4, true) } : Oper)) (v := ?_) rfl (by kernel_rfl) (by kernel_rfl) (by kernel_rfl) (fun _ _ _ h => h) (Or.inl ⟨by rfl, ?_⟩) (by assumption) ?_
                  rotate_left
                  · (intro w hSw; (try dsimp only at hSw); go_simp) <;> with_reducible rfl
                  (try simp only [Act.put, List.setIfInBounds_toArray, List.set_cons_zero, List.set_cons_succ])
                  refine wpAnyH_take (i := 10) (oi := ({ dst := some 72, op := Op.load 34 (Operand.tmp 10), type := 34, pos := "runs.go:99", after := #[{ on := 4, ground := Ground.guard }], guard := some (4, true) } : Oper)) (v := ?_) rfl (by kernel_rfl) (by kernel_rfl) (by kernel_rfl) (fun _ _ _ h => h) (Or.inl ⟨by rfl, ?_⟩) (by assumption) ?_
                  rotate_left
                  · (intro w hSw; (try dsimp only at hSw); go_simp) <;> with_reducible rfl
                  (try simp only [Act.put, List.setIfInBounds_toArray, List.set_cons_zero, List.set_cons_succ])
                  refine wpAnyH_ready (rs := [11]) (by kernel_rfl) (by simp) ?_
                  refine AllReadyH.cons (o := ({ dst := some 73, op := Op.call { callee := Callee.value (Operand.func 75), args := #[Operand.tmp 72], argTypes := #[34] }, type := 3, pos := "runs.go:99", after := #[{ on := 10, ground := Ground.data }, { on := 4, ground := Ground.chain }, { on := 4, ground := Ground.guard }], guard := some (4, true) } : Oper)) rfl (fun K hK => ?_) ?_
                  · go_simp
                    refine (end_any _ p n ea HE.out.1 HE.out.2.1 HE.out.2.2).mono ?_
                    rintro e w6 ⟨rfl, hb6⟩
                    have hB6 : Below w.heap.size w w6 := below_call BW.out (below_drewL hb6)
                    have hX6 := BX.out.below (below_drewL hb6)
                    go_wp2_with fail
                    refine hK.out _ _ ?_ (fun hHeld => ?_)
                    · exact ⟨hX6.c0, hX6.c1, (hB6.cell (lt_of_cell C0.out)).trans C0.out, (hB6.cell (lt_of_cell C1.out)).trans C1.out⟩
                    clear hK K
                    (try simp only [Act.put, List.setIfInBounds_toArray, List.set_cons_zero, List.set_cons_succ])
                    refine wpAnyH_take (i := 12) (oi := ({ dst := some 74, op := Op.binOp BinOp.eql 3 (Operand.tmp 71) (Operand.tmp 73) 3, type := 4, pos := "runs.go:99", after := #[{ on := 9, ground := Ground.data }, { on := 11, ground := Ground.data }, { on := 4, ground := Ground.guard }], guard := some (4, true) } : Oper)) (v := ?_) rfl (by kernel_rfl) (by kernel_rfl) (by kernel_rfl) (fun _ _ _ h => h) (Or.inl ⟨by rfl, ?_⟩) (by assumption) ?_
                    rotate_left
                    · (intro w hSw; (try dsimp only at hSw); go_simp) <;> with_reducible rfl
                    (try simp only [Act.put, List.setIfInBounds_toArray, List.set_cons_zero, List.set_cons_succ])
                    refine wpAnyH_take (i := 13) (oi := ({ dst := some 75, op := Op.pick (Operand.tmp 66) (Operand.tmp 74) (Operand.const (Value.bool false)), type := 4, pos := "runs.go:99", after := #[{ on := 4, ground := Ground.data }, { on := 12, ground := Ground.data }], guard := none } : Oper)) (v := ?_) rfl (by kernel_rfl) (by kernel_rfl) (by kernel_rfl) (fun _ _ _ h => h) (Or.inl ⟨by rfl, ?_⟩) (by assumption) ?_
                    rotate_left
                    · (intro w hSw; (try dsimp only at hSw); go_simp) <;> with_reducible rfl
                    (try simp only [Act.put, List.setIfInBounds_toArray, List.set_cons_zero, List.set_cons_succ])
                    refine wpAnyH_done (by kernel_rfl) ?_ _
                    refine NoPanic.normal ?_
                    go_wp2_with fail
                    go_meet
                    exact ⟨by first | rfl | (simp; omega), hX6, hB6⟩
                  exact AllReadyH.nil
                case rest =>
                  obtain ⟨rfl, bx, bw⟩ := hcut
                  have f0 := bx.c0
                  have f1 := bx.c1
                  have YW := Lib.hid bw
                  clear bx bw d0 d1
                  go_wp2_with (go_at_call 77; refine (changed_put _ (some ⟨bl, o, none⟩) l z c k k (k + 1 + (z - k)) p n HZ.out (HA.out.below YW.out) hl (by have := HF.out; omega) (by omega) rfl (by omega)).mono ?_; rintro e w9 ⟨A9, c9, rfl, hr9, hb9, hf9⟩)
                  go_ret2
                  refine ⟨A9, k + 1 + (z - k), c9, by rw [HR.out.2]; rfl, ?_, by rw [HR.out.1, HGV.out]; exact hr9, below_call YW.out hb9, hf9.mono YW.out.size⟩
                  have := HZ.out
                  have := HF.out
                  rw [HR.out.1, HGV.out, List.length_append, List.length_take, List.length_cons, List.length_drop]
                  omega
            · have hkl : ¬ k < l.length := by have := HZ.out; omega
              have hgB : M.gB l k ⟨p, n⟩ = ⟨p, n⟩ := by unfold M.gB M.jB; simp [hkl]
              have htB : M.toB l k ⟨p, n⟩ = k := by unfold M.toB M.jB; simp [hkl]
              have HGV := Lib.hid (show M.give l p n = l.take k ++ (⟨p, n⟩ :: l.drop k) by rw [GV.out, hgB, htB])
              clear hgB htB GV hkl hea
              go_cut [75] (fun v wx => v = .bool false ∧ Box wx g p n ∧ Below w.heap.size w wx)
              case first =>
                refine wp_region_noPanic ?_
                refine wp_region_held_drew (S := fun W => W.cell? ⟨g, 0, none⟩ = some (.int .i64 p) ∧ W.cell? ⟨g, 1, none⟩ = some (.int .i64 n)) (by kernel_rfl) (⟨BX.out.drew.c0, BX.out.drew.c1⟩) (fun hHeld => ?_)
                refine wpAnyH_take (i := 0) (oi := ({ dst := some 62, op := Op.move (Operand.tmp 12), type := 3, pos := "runs.go:99", after := #[], guard := none } : Oper)) (v := ?_) rfl (by kernel_rfl) (by kernel_rfl) (by kernel_rfl) (fun _ _ _ h => h) (Or.inl ⟨by rfl, ?_⟩) (by assumption) ?_
                rotate_left
                · (intro w hSw; (try dsimp only at hSw); go_simp) <;> with_reducible rfl
                (try simp only [Act.put, List.setIfInBounds_toArray, List.set_cons_zero, List.set_cons_succ])
                refine wpAnyH_take (i := 1) (oi := ({ dst := some 63, op := Op.move (Operand.tmp 0), type := 29, pos := "runs.go:99", after := #[], guard := none } : Oper)) (v := ?_) rfl (by kernel_rfl) (by kernel_rfl) (by kernel_rfl) (fun _ _ _ h => h) (Or.inl ⟨by rfl, ?_⟩) (by assumption) ?_
                rotate_left
                · (intro w hSw; (try dsimp only at hSw); go_simp) <;> with_reducible rfl
                (try simp only [Act.put, List.setIfInBounds_toArray, List.set_cons_zero, List.set_cons_succ])
                refine wpAnyH_take (i := 2) (oi := ({ dst := some 64, op := Op.call { callee := Callee.builtin Builtin.len, args := #[Operand.tmp 63], argTypes := #[29] }, type := 3, pos := "runs.go:99", after := #[{ on := 1, ground := Ground.data }], guard := none } : Oper)) (v := ?_) rfl (by kernel_rfl) (by kernel_rfl) (by kernel_rfl) (fun _ _ _ h => h) (Or.inl ⟨by rfl, ?_⟩) (by assumption) ?_
                rotate_left
                · (intro w hSw; (try dsimp only at hSw); go_simp) <;> with_reducible rfl
                (try simp only [Act.put, List.setIfInBounds_toArray, List.set_cons_zero, List.set_cons_succ])
                refine wpAnyH_take (i := 3) (oi := ({ dst := some 65, op := Op.binOp BinOp.lss 3 (Operand.tmp 62) (Operand.tmp 64) 3, type := 4, pos := "runs.go:99", after := #[{ on := 0, ground := Ground.data }, { on := 2, ground := Ground.data }], guard := none } : Oper)) (v := ?_) rfl (by kernel_rfl) (by kernel_rfl) (by kernel_rfl) (fun _ _ _ h => h) (Or.inl ⟨by rfl, ?_⟩) (by assumption) ?_
                rotate_left
                · (intro w hSw; (try dsimp only at hSw); go_simp) <;> with_reducible rfl
                (try simp only [Act.put, List.setIfInBounds_toArray, List.set_cons_zero, List.set_cons_succ])
                refine wpAnyH_take (i := 4) (oi := ({ dst := some 66, op := Op.move (Operand.tmp 65), type := 4, pos := "runs.go:99", after := #[{ on := 3, ground := Ground.data }], guard := none } : Oper)) (v := ?_) rfl (by kernel_rfl) (by kernel_rfl) (by kernel_rfl) (fun _ _ _ h => h) (Or.inl ⟨by rfl, ?_⟩) (by assumption) ?_
                rotate_left
                · (intro w hSw; (try dsimp only at hSw); go_simp) <;> with_reducible rfl
                (try simp only [Act.put, List.setIfInBounds_toArray, List.set_cons_zero, List.set_cons_succ])
                refine wpAnyH_take (i := 5) (oi := ({ dst := some 67, op := Op.move (Operand.tmp 0), type := 29, pos := "runs.go:99", after := #[{ on := 4, ground := Ground.guard }], guard := some (4, true) } : Oper)) (v := undef) rfl (by kernel_rfl) (by kernel_rfl) (by kernel_rfl) (fun _ _ _ h => h) (Or.inr ⟨by rfl, rfl⟩) (by assumption) ?_
                (try simp only [Act.put, List.setIfInBounds_toArray, List.set_cons_zero, List.set_cons_succ])
                refine wpAnyH_take (i := 6) (oi := ({ dst := some 68, op := Op.move (Operand.tmp 12), type := 3, pos := "runs.go:99", after := #[{ on := 4, ground := Ground.guard }], guard := some (4, true) } : Oper)) (v := undef) rfl (by kernel_rfl) (by kernel_rfl) (by kernel_rfl) (fun _ _ _ h => h) (Or.inr ⟨by rfl, rfl⟩) (by assumption) ?_
                (try simp only [Act.put, List.setIfInBounds_toArray, List.set_cons_zero, List.set_cons_succ])
                refine wpAnyH_take (i := 7) (oi := ({ dst := some 69, op := Op.indexAddr 29 (Operand.tmp 67) (Operand.tmp 68), type := 0, pos := "runs.go:99", after := #[{ on := 5, ground := Ground.data }, { on := 6, ground := Ground.data }, { on := 4, ground := Ground.guard }], guard := some (4, true) } : Oper)) (v := undef) rfl (by kernel_rfl) (by kernel_rfl) (by kernel_rfl) (fun _ _ _ h => h) (Or.inr ⟨by rfl, rfl⟩) (by assumption) ?_
                (try simp only [Act.put, List.setIfInBounds_toArray, List.set_cons_zero, List.set_cons_succ])
                refine wpAnyH_take (i := 8) (oi := ({ dst := some 70, op := Op.fieldAddr 34 (Operand.tmp 69) 0, type := 0, pos := "runs.go:99", after := #[{ on := 7, ground := Ground.data }, { on := 4, ground := Ground.guard }], guard := some (4, true) } : Oper)) (v := undef) rfl (by kernel_rfl) (by kernel_rfl) (by kernel_rfl) (fun _ _ _ h => h) (Or.inr ⟨by rfl, rfl⟩) (by assumption) ?_
                (try simp only [Act.put, List.setIfInBounds_toArray, List.set_cons_zero, List.set_cons_succ])
                refine wpAnyH_take (i := 9) (oi := ({ dst := some 71, op := Op.load 3 (Operand.tmp 70), type := 3, pos := "runs.go:99", after := #[{ on := 8, ground := Ground.data }, { on := 4, ground := Ground.guard }], guard := some (4, true) } : Oper)) (v := undef) rfl (by kernel_rfl) (by kernel_rfl) (by kernel_rfl) (fun _ _ _ h => h) (Or.inr ⟨by rfl, rfl⟩) (by assumption) ?_
                (try simp only [Act.put, List.setIfInBounds_toArray, List.set_cons_zero, List.set_cons_succ])
                refine wpAnyH_take (i := 10) (oi := ({ dst := some 72, op := Op.load 34 (Operand.tmp 10), type := 34, pos := "runs.go:99", after := #[{ on := 4, ground := Ground.guard }], guard := some (4, true) } : Oper)) (v := undef) rfl (by kernel_rfl) (by kernel_rfl) (by kernel_rfl) (fun _ _ _ h => h) (Or.inr ⟨by rfl, rfl⟩) (by assumption) ?_
                (try simp only [Act.put, List.setIfInBounds_toArray, List.set_cons_zero, List.set_cons_succ])
                refine wpAnyH_take (i := 11) (oi := ({ dst := some 73, op := Op.call { callee := Callee.value (Operand.func 75), args := #[Operand.tmp 72], argTypes := #[34] }, type := 3, pos := "runs.go:99", after := #[{ on := 10, ground := Ground.data }, { on := 4, ground := Ground.chain }, { on := 4, ground := Ground.guard }], guard := some (4, true) } : Oper)) (v := undef) rfl (by kernel_rfl) (by kernel_rfl) (by kernel_rfl) (fun _ _ _ h => h) (Or.inr ⟨by rfl, rfl⟩) (by assumption) ?_
                (try simp only [Act.put, List.setIfInBounds_toArray, List.set_cons_zero, List.set_cons_succ])
                refine wpAnyH_take (i := 12) (oi := ({ dst := some 74, op := Op.binOp BinOp.eql 3 (Operand.tmp 71) (Operand.tmp 73) 3, type := 4, pos := "runs.go:99", after := #[{ on := 9, ground := Ground.data }, { on := 11, ground := Ground.data }, { on := 4, ground := Ground.guard }], guard := some (4, true) } : Oper)) (v := undef) rfl (by kernel_rfl) (by kernel_rfl) (by kernel_rfl) (fun _ _ _ h => h) (Or.inr ⟨by rfl, rfl⟩) (by assumption) ?_
                (try simp only [Act.put, List.setIfInBounds_toArray, List.set_cons_zero, List.set_cons_succ])
                refine wpAnyH_take (i := 13) (oi := ({ dst := some 75, op := Op.pick (Operand.tmp 66) (Operand.tmp 74) (Operand.const (Value.bool false)), type := 4, pos := "runs.go:99", after := #[{ on := 4, ground := Ground.data }, { on := 12, ground := Ground.data }], guard := none } : Oper)) (v := ?_) rfl (by kernel_rfl) (by kernel_rfl) (by kernel_rfl) (fun _ _ _ h => h) (Or.inl ⟨by rfl, ?_⟩) (by assumption) ?_
                rotate_left
                · (intro w hSw; (try dsimp only at hSw); go_simp) <;> with_reducible rfl
                (try simp only [Act.put, List.setIfInBounds_toArray, List.set_cons_zero, List.set_cons_succ])
                refine wpAnyH_done (by kernel_rfl) ?_ _
                refine NoPanic.normal ?_
                go_wp2_with fail
                go_meet
                exact ⟨by first | rfl | (simp; omega), BX.out.drew, BW.out.drew⟩
              case rest =>
                obtain ⟨rfl, bx, bw⟩ := hcut
                have f0 := bx.c0
                have f1 := bx.c1
                have YW := Lib.hid bw
                clear bx bw
                go_wp2_with (go_at_call 77; refine (changed_put _ (some ⟨bl, o, none⟩) l z c k k (k + 1 + (z - k)) p n HZ.out (HA.out.below YW.out) hl (by have := HF.out; omega) (by omega) rfl (by omega)).mono ?_; rintro e w9 ⟨A9, c9, rfl, hr9, hb9, hf9⟩)
                go_ret2
                refine ⟨A9, k + 1 + (z - k), c9, by rw [HR.out.2]; rfl, ?_, by rw [HR.out.1, HGV.out]; exact hr9, below_call YW.out hb9, hf9.mono YW.out.size⟩
                have := HZ.out
                have := HF.out
                rw [HR.out.1, HGV.out, List.length_append, List.length_take, List.length_cons, List.length_drop]
                omega
        · have hfA : M.fromA l k p = k := by unfold M.fromA M.jA; simp [hkpos]
          have hgA : M.gA l k p n = ⟨p, n⟩ := by unfold M.gA M.jA; simp [hkpos]
          have GV := Lib.hid (show M.give l p n = l.take k ++ (M.gB l k ⟨p, n⟩ :: l.drop (M.toB l k ⟨p, n⟩)) by rw [hgive, hfA, hgA])
          clear hgive hfA hgA
          have HF := Lib.hid (show k ≤ k ∧ True from ⟨Nat.le_refl _, trivial⟩)
          go_wp2_with fail
          obtain ⟨ea, hea⟩ : ∃ ea, p + n = ea := ⟨_, rfl⟩
          have HE := Lib.hid (show p + n = ea ∧ -9223372036854775808 ≤ ea ∧ ea ≤ 9223372036854775807 from ⟨hea, by omega, by omega⟩)
          by_cases hkz2 : k < z
          · have hkl : k < l.length := by have := HZ.out; omega
            have hc := HCC.out
            have hgd := M.getD_at l k hkl
            have bk := ok_at HO.out k hkl
            have c0 := (hc k hkl).1
            have c1 := (hc k hkl).2
            have hgB : M.gB l k ⟨p, n⟩ = if l[k].p = ea then ⟨p, n + l[k].n⟩ else ⟨p, n⟩ := by
              unfold M.gB M.jB
              simp only [hgd, hkl, hea, decide_true, Bool.true_and, decide_eq_true_eq]
            have htB : M.toB l k ⟨p, n⟩ = if l[k].p = ea then k + 1 else k := by
              unfold M.toB M.jB
              simp only [hgd, hkl, hea, decide_true, Bool.true_and, decide_eq_true_eq]
            obtain ⟨pb, hpb⟩ : ∃ pb, pb = l[k].p := ⟨_, rfl⟩
            obtain ⟨nb, hnb⟩ : ∃ nb, nb = l[k].n := ⟨_, rfl⟩
            rw [← hpb] at c0 bk hgB htB
            rw [← hnb] at c1 bk hgB
            have C0 := Lib.hid c0
            have C1 := Lib.hid c1
            have d0 := (BW.out.cell (lt_of_cell c0)).trans c0
            have d1 := (BW.out.cell (lt_of_cell c1)).trans c1
            clear hc hgd hpb hnb c0 c1 hkl hea
            by_cases tB : pb = ea
            · rw [if_pos tB] at hgB htB
              have HGV := Lib.hid (show M.give l p n = l.take k ++ (⟨p, n + nb⟩ :: l.drop (k + 1)) by rw [GV.out, hgB, htB])
              obtain ⟨nc, hnc⟩ : ∃ nc, n + nb = nc := ⟨_, rfl⟩
              rw [hnc] at HGV
              have HJ := Lib.hid (show n + nb = nc ∧ -9223372036854775808 ≤ nc ∧ nc ≤ 9223372036854775807 from ⟨hnc, by omega, by omega⟩)
              have hnc1 : 1 ≤ nc := by omega
              clear hgB htB GV bk hnc
              go_cut [75] (fun v wx => v = .bool true ∧ Box wx g p n ∧ Below w.heap.size w wx)
              case first =>
                refine wp_region_noPanic ?_
                refine wp_region_held_drew (S := fun W => W.cell? ⟨g, 0, none⟩ = some (.int .i64 p) ∧ W.cell? ⟨g, 1, none⟩ = some (.int .i64 n) ∧ W.cell? ⟨bl, o + k * 2, none⟩ = some (.int .i64 pb) ∧ W.cell? ⟨bl, o + k * 2 + 1, none⟩ = some (.int .i64 nb)) (by kernel_rfl) (⟨BX.out.drew.c0, BX.out.drew.c1, (BW.out.drew.cell (lt_of_cell C0.out)).trans C0.out, (BW.out.drew.cell (lt_of_cell C1.out)).trans C1.out⟩) (fun hHeld => ?_)
                refine wpAnyH_take (i := 0) (oi := ({ dst := some 62, op := Op.move (Operand.tmp 12), type := 3, pos := "runs.go:99", after := #[], guard := none } : Oper)) (v := ?_) rfl (by kernel_rfl) (by kernel_rfl) (by kernel_rfl) (fun _ _ _ h => h) (Or.inl ⟨by rfl, ?_⟩) (by assumption) ?_
                rotate_left
                · (intro w hSw; (try dsimp only at hSw); go_simp) <;> with_reducible rfl
                (try simp only [Act.put, List.setIfInBounds_toArray, List.set_cons_zero, List.set_cons_succ])
                refine wpAnyH_take (i := 1) (oi := ({ dst := some 63, op := Op.move (Operand.tmp 0), type := 29, pos := "runs.go:99", after := #[], guard := none } : Oper)) (v := ?_) rfl (by kernel_rfl) (by kernel_rfl) (by kernel_rfl) (fun _ _ _ h => h) (Or.inl ⟨by rfl, ?_⟩) (by assumption) ?_
                rotate_left
                · (intro w hSw; (try dsimp only at hSw); go_simp) <;> with_reducible rfl
                (try simp only [Act.put, List.setIfInBounds_toArray, List.set_cons_zero, List.set_cons_succ])
                refine wpAnyH_take (i := 2) (oi := ({ dst := some 64, op := Op.call { callee := Callee.builtin Builtin.len, args := #[Operand.tmp 63], argTypes := #[29] }, type := 3, pos := "runs.go:99", after := #[{ on := 1, ground := Ground.data }], guard := none } : Oper)) (v := ?_) rfl (by kernel_rfl) (by kernel_rfl) (by kernel_rfl) (fun _ _ _ h => h) (Or.inl ⟨by rfl, ?_⟩) (by assumption) ?_
                rotate_left
                · (intro w hSw; (try dsimp only at hSw); go_simp) <;> with_reducible rfl
                (try simp only [Act.put, List.setIfInBounds_toArray, List.set_cons_zero, List.set_cons_succ])
                refine wpAnyH_take (i := 3) (oi := ({ dst := some 65, op := Op.binOp BinOp.lss 3 (Operand.tmp 62) (Operand.tmp 64) 3, type := 4, pos := "runs.go:99", after := #[{ on := 0, ground := Ground.data }, { on := 2, ground := Ground.data }], guard := none } : Oper)) (v := ?_) rfl (by kernel_rfl) (by kernel_rfl) (by kernel_rfl) (fun _ _ _ h => h) (Or.inl ⟨by rfl, ?_⟩) (by assumption) ?_
                rotate_left
                · (intro w hSw; (try dsimp only at hSw); go_simp) <;> with_reducible rfl
                (try simp only [Act.put, List.setIfInBounds_toArray, List.set_cons_zero, List.set_cons_succ])
                refine wpAnyH_take (i := 4) (oi := ({ dst := some 66, op := Op.move (Operand.tmp 65), type := 4, pos := "runs.go:99", after := #[{ on := 3, ground := Ground.data }], guard := none } : Oper)) (v := ?_) rfl (by kernel_rfl) (by kernel_rfl) (by kernel_rfl) (fun _ _ _ h => h) (Or.inl ⟨by rfl, ?_⟩) (by assumption) ?_
                rotate_left
                · (intro w hSw; (try dsimp only at hSw); go_simp) <;> with_reducible rfl
                (try simp only [Act.put, List.setIfInBounds_toArray, List.set_cons_zero, List.set_cons_succ])
                refine wpAnyH_take (i := 5) (oi := ({ dst := some 67, op := Op.move (Operand.tmp 0), type := 29, pos := "runs.go:99", after := #[{ on := 4, ground := Ground.guard }], guard := some (4, true) } : Oper)) (v := ?_) rfl (by kernel_rfl) (by kernel_rfl) (by kernel_rfl) (fun _ _ _ h => h) (Or.inl ⟨by rfl, ?_⟩) (by assumption) ?_
                rotate_left
                · (intro w hSw; (try dsimp only at hSw); go_simp) <;> with_reducible rfl
                (try simp only [Act.put, List.setIfInBounds_toArray, List.set_cons_zero, List.set_cons_succ])
                refine wpAnyH_take (i := 6) (oi := ({ dst := some 68, op := Op.move (Operand.tmp 12), type := 3, pos := "runs.go:99", after := #[{ on := 4, ground := Ground.guard }], guard := some (4, true) } : Oper)) (v := ?_) rfl (by kernel_rfl) (by kernel_rfl) (by kernel_rfl) (fun _ _ _ h => h) (Or.inl ⟨by rfl, ?_⟩) (by assumption) ?_
                rotate_left
                · (intro w hSw; (try dsimp only at hSw); go_simp) <;> with_reducible rfl
                (try simp only [Act.put, List.setIfInBounds_toArray, List.set_cons_zero, List.set_cons_succ])
                refine wpAnyH_take (i := 7) (oi := ({ dst := some 69, op := Op.indexAddr 29 (Operand.tmp 67) (Operand.tmp 68), type := 0, pos := "runs.go:99", after := #[{ on := 5, ground := Ground.data }, { on := 6, ground := Ground.data }, { on := 4, ground := Ground.guard }], guard := some (4, true) } : Oper)) (v := ?_) rfl (by kernel_rfl) (by kernel_rfl) (by kernel_rfl) (fun _ _ _ h => h) (Or.inl ⟨by rfl, ?_⟩) (by assumption) ?_
                rotate_left
                · (intro w hSw; (try dsimp only at hSw); go_simp) <;> with_reducible rfl
                (try simp only [Act.put, List.setIfInBounds_toArray, List.set_cons_zero, List.set_cons_succ])
                refine wpAnyH_take (i := 8) (oi := ({ dst := some 70, op := Op.fieldAddr 34 (Operand.tmp 69) 0, type := 0, pos := "runs.go:99", after := #[{ on := 7, ground := Ground.data }, { on := 4, ground := Ground.guard }], guard := some (4, true) } : Oper)) (v := ?_) rfl (by kernel_rfl) (by kernel_rfl) (by kernel_rfl) (fun _ _ _ h => h) (Or.inl ⟨by rfl, ?_⟩) (by assumption) ?_
                rotate_left
                · (intro w hSw; (try dsimp only at hSw); go_simp) <;> with_reducible rfl
                (try simp only [Act.put, List.setIfInBounds_toArray, List.set_cons_zero, List.set_cons_succ])
                refine wpAnyH_take (i := 9) (oi := ({ dst := some 71, op := Op.load 3 (Operand.tmp 70), type := 3, pos := "runs.go:99", after := #[{ on := 8, ground := Ground.data }, { on := 4, ground := Ground.guard }], guard := some (4, true) } : Oper)) (v := ?_) rfl (by kernel_rfl) (by kernel_rfl) (by kernel_rfl) (fun _ _ _ h => h) (Or.inl ⟨by rfl, ?_⟩) (by assumption) ?_
                rotate_left
                · (intro w hSw; (try dsimp only at hSw); go_simp) <;> with_reducible rfl
                (try simp only [Act.put, List.setIfInBounds_toArray, List.set_cons_zero, List.set_cons_succ])
                refine wpAnyH_take (i := 10) (oi := ({ dst := some 72, op := Op.load 34 (Operand.tmp 10), type := 34, pos := "runs.go:99", after := #[{ on := 4, ground := Ground.guard }], guard := some (4, true) } : Oper)) (v := ?_) rfl (by kernel_rfl) (by kernel_rfl) (by kernel_rfl) (fun _ _ _ h => h) (Or.inl ⟨by rfl, ?_⟩) (by assumption) ?_
                rotate_left
                · (intro w hSw; (try dsimp only at hSw); go_simp) <;> with_reducible rfl
                (try simp only [Act.put, List.setIfInBounds_toArray, List.set_cons_zero, List.set_cons_succ])
                refine wpAnyH_ready (rs := [11]) (by kernel_rfl) (by simp) ?_
                refine AllReadyH.cons (o := ({ dst := some 73, op := Op.call { callee := Callee.value (Operand.func 75), args := #[Operand.tmp 72], argTypes := #[34] }, type := 3, pos := "runs.go:99", after := #[{ on := 10, ground := Ground.data }, { on := 4, ground := Ground.chain }, { on := 4, ground := Ground.guard }], guard := some (4, true) } : Oper)) rfl (fun K hK => ?_) ?_
                · go_simp
                  refine (end_any _ p n ea HE.out.1 HE.out.2.1 HE.out.2.2).mono ?_
                  rintro e w6 ⟨rfl, hb6⟩
                  have hB6 : Below w.heap.size w w6 := below_call BW.out (below_drewL hb6)
                  have hX6 := BX.out.below (below_drewL hb6)
                  go_wp2_with fail
                  refine hK.out _ _ ?_ (fun hHeld => ?_)
                  · exact ⟨hX6.c0, hX6.c1, (hB6.cell (lt_of_cell C0.out)).trans C0.out, (hB6.cell (lt_of_cell C1.out)).trans C1.out⟩
                  clear hK K
                  (try simp only [Act.put, List.setIfInBounds_toArray, List.set_cons_zero, List.set_cons_succ])
                  refine wpAnyH_take (i := 12) (oi := ({ dst := some 74, op := Op.binOp BinOp.eql 3 (Operand.tmp 71) (Operand.tmp 73) 3, type := 4, pos := "runs.go:99", after := #[{ on := 9, ground := Ground.data }, { on := 11, ground := Ground.data }, { on := 4, ground := Ground.guard }], guard := some (4, true) } : Oper)) (v := ?_) rfl (by kernel_rfl) (by kernel_rfl) (by kernel_rfl) (fun _ _ _ h => h) (Or.inl ⟨by rfl, ?_⟩) (by assumption) ?_
                  rotate_left
                  · (intro w hSw; (try dsimp only at hSw); go_simp) <;> with_reducible rfl
                  (try simp only [Act.put, List.setIfInBounds_toArray, List.set_cons_zero, List.set_cons_succ])
                  refine wpAnyH_take (i := 13) (oi := ({ dst := some 75, op := Op.pick (Operand.tmp 66) (Operand.tmp 74) (Operand.const (Value.bool false)), type := 4, pos := "runs.go:99", after := #[{ on := 4, ground := Ground.data }, { on := 12, ground := Ground.data }], guard := none } : Oper)) (v := ?_) rfl (by kernel_rfl) (by kernel_rfl) (by kernel_rfl) (fun _ _ _ h => h) (Or.inl ⟨by rfl, ?_⟩) (by assumption) ?_
                  rotate_left
                  · (intro w hSw; (try dsimp only at hSw); go_simp) <;> with_reducible rfl
                  (try simp only [Act.put, List.setIfInBounds_toArray, List.set_cons_zero, List.set_cons_succ])
                  refine wpAnyH_done (by kernel_rfl) ?_ _
                  refine NoPanic.normal ?_
                  go_wp2_with fail
                  go_meet
                  exact ⟨by first | rfl | (simp; omega), hX6, hB6⟩
                exact AllReadyH.nil
              case rest =>
                obtain ⟨rfl, bx, bw⟩ := hcut
                have BX := Lib.hid bx
                have BW := Lib.hid bw
                have d0 := (bw.cell (lt_of_cell C0.out)).trans C0.out
                have d1 := (bw.cell (lt_of_cell C1.out)).trans C1.out
                have e0 := bx.c0
                have e1 := bx.c1
                clear bx bw
                go_wp2_with fail
                go_cut [] (fun wx => Box wx g p nc ∧ Below w.heap.size w wx)
                case first =>
                  refine wp_region_noPanic ?_
                  refine wp_region_held_drew (S := fun _ => True) (by kernel_rfl) (trivial) (fun hHeld => ?_)
                  refine wpAnyH_take (i := 1) (oi := ({ dst := some 77, op := Op.move (Operand.tmp 0), type := 29, pos := "runs.go:100", after := #[], guard := none } : Oper)) (v := ?_) rfl (by kernel_rfl) (by kernel_rfl) (by kernel_rfl) (fun _ _ _ h => h) (Or.inl ⟨by rfl, ?_⟩) (by assumption) ?_
                  rotate_left
                  · (intro w hSw; (try dsimp only at hSw); go_simp) <;> with_reducible rfl
                  (try simp only [Act.put, List.setIfInBounds_toArray, List.set_cons_zero, List.set_cons_succ])
                  refine wpAnyH_take (i := 2) (oi := ({ dst := some 78, op := Op.move (Operand.tmp 12), type := 3, pos := "runs.go:100", after := #[], guard := none } : Oper)) (v := ?_) rfl (by kernel_rfl) (by kernel_rfl) (by kernel_rfl) (fun _ _ _ h => h) (Or.inl ⟨by rfl, ?_⟩) (by assumption) ?_
                  rotate_left
                  · (intro w hSw; (try dsimp only at hSw); go_simp) <;> with_reducible rfl
                  (try simp only [Act.put, List.setIfInBounds_toArray, List.set_cons_zero, List.set_cons_succ])
                  refine wpAnyH_take (i := 3) (oi := ({ dst := some 79, op := Op.indexAddr 29 (Operand.tmp 77) (Operand.tmp 78), type := 0, pos := "runs.go:100", after := #[{ on := 1, ground := Ground.data }, { on := 2, ground := Ground.data }], guard := none } : Oper)) (v := ?_) rfl (by kernel_rfl) (by kernel_rfl) (by kernel_rfl) (fun _ _ _ h => h) (Or.inl ⟨by rfl, ?_⟩) (by assumption) ?_
                  rotate_left
                  · (intro w hSw; (try dsimp only at hSw); go_simp) <;> with_reducible rfl
                  (try simp only [Act.put, List.setIfInBounds_toArray, List.set_cons_zero, List.set_cons_succ])
                  refine wpAnyH_ready (rs := [0, 4]) (by kernel_rfl) (by simp) ?_
                  refine AllReadyH.cons (o := ({ dst := some 76, op := Op.load 34 (Operand.tmp 10), type := 34, pos := "runs.go:100", after := #[], guard := none } : Oper)) rfl (fun K hK => ?_) ?_
                  · go_simp
                    refine hK.out _ _ ?_ (fun hHeld => ?_)
                    · trivial
                    clear hK K
                    (try simp only [Act.put, List.setIfInBounds_toArray, List.set_cons_zero, List.set_cons_succ])
                    refine wpAnyH_ready (rs := [4]) (by kernel_rfl) (by simp) ?_
                    refine AllReadyH.cons (o := ({ dst := some 80, op := Op.load 34 (Operand.tmp 79), type := 34, pos := "runs.go:100", after := #[{ on := 3, ground := Ground.data }], guard := none } : Oper)) rfl (fun K hK => ?_) ?_
                    · go_simp
                      refine hK.out _ _ ?_ (fun hHeld => ?_)
                      · trivial
                      clear hK K
                      (try simp only [Act.put, List.setIfInBounds_toArray, List.set_cons_zero, List.set_cons_succ])
                      refine wpAnyH_ready (rs := [5]) (by kernel_rfl) (by simp) ?_
                      refine AllReadyH.cons (o := ({ dst := some 81, op := Op.call { callee := Callee.value (Operand.func 76), args := #[Operand.tmp 76, Operand.tmp 80], argTypes := #[34, 34] }, type := 34, pos := "runs.go:100", after := #[{ on := 0, ground := Ground.data }, { on := 4, ground := Ground.data }], guard := none } : Oper)) rfl (fun K hK => ?_) ?_
                      · go_simp
                        refine (joined_any _ p n _ nb nc HJ.out.1 HJ.out.2.1 HJ.out.2.2).mono ?_
                        rintro e w6 ⟨rfl, hb6⟩
                        have hB6 : Below w.heap.size w w6 := below_call BW.out (below_drewL hb6)
                        have x6 := BX.out.below (below_drewL hb6)
                        have r0 := x6.c0
                        have r1 := x6.c1
                        have r2 := x6.f0
                        have r3 := x6.f1
                        have X6 := Lib.hid x6
                        clear x6
                        go_wp2_with fail
                        refine hK.out _ _ ?_ (fun hHeld => ?_)
                        · trivial
                        clear hK K
                        (try simp only [Act.put, List.setIfInBounds_toArray, List.set_cons_zero, List.set_cons_succ])
                        refine wpAnyH_ready (rs := [6]) (by kernel_rfl) (by simp) ?_
                        refine AllReadyH.cons (o := ({ dst := none, op := Op.store 34 (Operand.tmp 10) (Operand.tmp 81), type := 0, pos := "runs.go:100", after := #[{ on := 5, ground := Ground.data }, { on := 5, ground := Ground.chain }, { on := 0, ground := Ground.phase }, { on := 1, ground := Ground.phase }, { on := 2, ground := Ground.phase }, { on := 3, ground := Ground.phase }, { on := 4, ground := Ground.phase }, { on := 5, ground := Ground.phase }], guard := none } : Oper)) rfl (fun K hK => ?_) ?_
                        · go_simp
                          refine hK.out _ _ ?_ (fun hHeld => ?_)
                          · trivial
                          clear hK K
                          (try simp only [Act.put, List.setIfInBounds_toArray, List.set_cons_zero, List.set_cons_succ])
                          refine wpAnyH_done (by kernel_rfl) ?_ _
                          refine NoPanic.normal ?_
                          go_wp2_with fail
                          go_meet
                          exact ⟨X6.out.set p nc, below_set hB6 HGW.out _ _⟩
                        exact AllReadyH.nil
                      exact AllReadyH.nil
                    exact AllReadyH.nil
                  refine AllReadyH.cons (o := ({ dst := some 80, op := Op.load 34 (Operand.tmp 79), type := 34, pos := "runs.go:100", after := #[{ on := 3, ground := Ground.data }], guard := none } : Oper)) rfl (fun K hK => ?_) ?_
                  · go_simp
                    refine hK.out _ _ ?_ (fun hHeld => ?_)
                    · trivial
                    clear hK K
                    (try simp only [Act.put, List.setIfInBounds_toArray, List.set_cons_zero, List.set_cons_succ])
                    refine wpAnyH_ready (rs := [0]) (by kernel_rfl) (by simp) ?_
                    refine AllReadyH.cons (o := ({ dst := some 76, op := Op.load 34 (Operand.tmp 10), type := 34, pos := "runs.go:100", after := #[], guard := none } : Oper)) rfl (fun K hK => ?_) ?_
                    · go_simp
                      refine hK.out _ _ ?_ (fun hHeld => ?_)
                      · trivial
                      clear hK K
                      (try simp only [Act.put, List.setIfInBounds_toArray, List.set_cons_zero, List.set_cons_succ])
                      refine wpAnyH_ready (rs := [5]) (by kernel_rfl) (by simp) ?_
                      refine AllReadyH.cons (o := ({ dst := some 81, op := Op.call { callee := Callee.value (Operand.func 76), args := #[Operand.tmp 76, Operand.tmp 80], argTypes := #[34, 34] }, type := 34, pos := "runs.go:100", after := #[{ on := 0, ground := Ground.data }, { on := 4, ground := Ground.data }], guard := none } : Oper)) rfl (fun K hK => ?_) ?_
                      · go_simp
                        refine (joined_any _ p n _ nb nc HJ.out.1 HJ.out.2.1 HJ.out.2.2).mono ?_
                        rintro e w6 ⟨rfl, hb6⟩
                        have hB6 : Below w.heap.size w w6 := below_call BW.out (below_drewL hb6)
                        have x6 := BX.out.below (below_drewL hb6)
                        have r0 := x6.c0
                        have r1 := x6.c1
                        have r2 := x6.f0
                        have r3 := x6.f1
                        have X6 := Lib.hid x6
                        clear x6
                        go_wp2_with fail
                        refine hK.out _ _ ?_ (fun hHeld => ?_)
                        · trivial
                        clear hK K
                        (try simp only [Act.put, List.setIfInBounds_toArray, List.set_cons_zero, List.set_cons_succ])
                        refine wpAnyH_ready (rs := [6]) (by kernel_rfl) (by simp) ?_
                        refine AllReadyH.cons (o := ({ dst := none, op := Op.store 34 (Operand.tmp 10) (Operand.tmp 81), type := 0, pos := "runs.go:100", after := #[{ on := 5, ground := Ground.data }, { on := 5, ground := Ground.chain }, { on := 0, ground := Ground.phase }, { on := 1, ground := Ground.phase }, { on := 2, ground := Ground.phase }, { on := 3, ground := Ground.phase }, { on := 4, ground := Ground.phase }, { on := 5, ground := Ground.phase }], guard := none } : Oper)) rfl (fun K hK => ?_) ?_
                        · go_simp
                          refine hK.out _ _ ?_ (fun hHeld => ?_)
                          · trivial
                          clear hK K
                          (try simp only [Act.put, List.setIfInBounds_toArray, List.set_cons_zero, List.set_cons_succ])
                          refine wpAnyH_done (by kernel_rfl) ?_ _
                          refine NoPanic.normal ?_
                          go_wp2_with fail
                          go_meet
                          exact ⟨X6.out.set p nc, below_set hB6 HGW.out _ _⟩
                        exact AllReadyH.nil
                      exact AllReadyH.nil
                    exact AllReadyH.nil
                  exact AllReadyH.nil
                case rest =>
                  obtain ⟨bx, bw⟩ := hcut
                  have f0 := bx.c0
                  have f1 := bx.c1
                  have YW := Lib.hid bw
                  clear bx bw d0 d1 e0 e1
                  go_wp2_with (go_at_call 77; refine (changed_put _ (some ⟨bl, o, none⟩) l z c k (k + 1) (k + 1 + (z - (k + 1))) p nc HZ.out (HA.out.below YW.out) hl (by have := HF.out; omega) (by omega) rfl (by omega)).mono ?_; rintro e w9 ⟨A9, c9, rfl, hr9, hb9, hf9⟩)
                  go_ret2
                  refine ⟨A9, k + 1 + (z - (k + 1)), c9, by rw [HR.out.2]; rfl, ?_, by rw [HR.out.1, HGV.out]; exact hr9, below_call YW.out hb9, hf9.mono YW.out.size⟩
                  have := HZ.out
                  have := HF.out
                  rw [HR.out.1, HGV.out, List.length_append, List.length_take, List.length_cons, List.length_drop]
                  omega
            · rw [if_neg tB] at hgB htB
              have HGV := Lib.hid (show M.give l p n = l.take k ++ (⟨p, n⟩ :: l.drop k) by rw [GV.out, hgB, htB])
              clear hgB htB GV bk
              go_cut [75] (fun v wx => v = .bool false ∧ Box wx g p n ∧ Below w.heap.size w wx)
              case first =>
                refine wp_region_noPanic ?_
                refine wp_region_held_drew (S := fun W => W.cell? ⟨g, 0, none⟩ = some (.int .i64 p) ∧ W.cell? ⟨g, 1, none⟩ = some (.int .i64 n) ∧ W.cell? ⟨bl, o + k * 2, none⟩ = some (.int .i64 pb) ∧ W.cell? ⟨bl, o + k * 2 + 1, none⟩ = some (.int .i64 nb)) (by kernel_rfl) (⟨BX.out.drew.c0, BX.out.drew.c1, (BW.out.drew.cell (lt_of_cell C0.out)).trans C0.out, (BW.out.drew.cell (lt_of_cell C1.out)).trans C1.out⟩) (fun hHeld => ?_)
                refine wpAnyH_take (i := 0) (oi := ({ dst := some 62, op := Op.move (Operand.tmp 12), type := 3, pos := "runs.go:99", after := #[], guard := none } : Oper)) (v := ?_) rfl (by kernel_rfl) (by kernel_rfl) (by kernel_rfl) (fun _ _ _ h => h) (Or.inl ⟨by rfl, ?_⟩) (by assumption) ?_
                rotate_left
                · (intro w hSw; (try dsimp only at hSw); go_simp) <;> with_reducible rfl
                (try simp only [Act.put, List.setIfInBounds_toArray, List.set_cons_zero, List.set_cons_succ])
                refine wpAnyH_take (i := 1) (oi := ({ dst := some 63, op := Op.move (Operand.tmp 0), type := 29, pos := "runs.go:99", after := #[], guard := none } : Oper)) (v := ?_) rfl (by kernel_rfl) (by kernel_rfl) (by kernel_rfl) (fun _ _ _ h => h) (Or.inl ⟨by rfl, ?_⟩) (by assumption) ?_
                rotate_left
                · (intro w hSw; (try dsimp only at hSw); go_simp) <;> with_reducible rfl
                (try simp only [Act.put, List.setIfInBounds_toArray, List.set_cons_zero, List.set_cons_succ])
                refine wpAnyH_take (i := 2) (oi := ({ dst := some 64, op := Op.call { callee := Callee.builtin Builtin.len, args := #[Operand.tmp 63], argTypes := #[29] }, type := 3, pos := "runs.go:99", after := #[{ on := 1, ground := Ground.data }], guard := none } : Oper)) (v := ?_) rfl (by kernel_rfl) (by kernel_rfl) (by kernel_rfl) (fun _ _ _ h => h) (Or.inl ⟨by rfl, ?_⟩) (by assumption) ?_
                rotate_left
                · (intro w hSw; (try dsimp only at hSw); go_simp) <;> with_reducible rfl
                (try simp only [Act.put, List.setIfInBounds_toArray, List.set_cons_zero, List.set_cons_succ])
                refine wpAnyH_take (i := 3) (oi := ({ dst := some 65, op := Op.binOp BinOp.lss 3 (Operand.tmp 62) (Operand.tmp 64) 3, type := 4, pos := "runs.go:99", after := #[{ on := 0, ground := Ground.data }, { on := 2, ground := Ground.data }], guard := none } : Oper)) (v := ?_) rfl (by kernel_rfl) (by kernel_rfl) (by kernel_rfl) (fun _ _ _ h => h) (Or.inl ⟨by rfl, ?_⟩) (by assumption) ?_
                rotate_left
                · (intro w hSw; (try dsimp only at hSw); go_simp) <;> with_reducible rfl
                (try simp only [Act.put, List.setIfInBounds_toArray, List.set_cons_zero, List.set_cons_succ])
                refine wpAnyH_take (i := 4) (oi := ({ dst := some 66, op := Op.move (Operand.tmp 65), type := 4, pos := "runs.go:99", after := #[{ on := 3, ground := Ground.data }], guard := none } : Oper)) (v := ?_) rfl (by kernel_rfl) (by kernel_rfl) (by kernel_rfl) (fun _ _ _ h => h) (Or.inl ⟨by rfl, ?_⟩) (by assumption) ?_
                rotate_left
                · (intro w hSw; (try dsimp only at hSw); go_simp) <;> with_reducible rfl
                (try simp only [Act.put, List.setIfInBounds_toArray, List.set_cons_zero, List.set_cons_succ])
                refine wpAnyH_take (i := 5) (oi := ({ dst := some 67, op := Op.move (Operand.tmp 0), type := 29, pos := "runs.go:99", after := #[{ on := 4, ground := Ground.guard }], guard := some (4, true) } : Oper)) (v := ?_) rfl (by kernel_rfl) (by kernel_rfl) (by kernel_rfl) (fun _ _ _ h => h) (Or.inl ⟨by rfl, ?_⟩) (by assumption) ?_
                rotate_left
                · (intro w hSw; (try dsimp only at hSw); go_simp) <;> with_reducible rfl
                (try simp only [Act.put, List.setIfInBounds_toArray, List.set_cons_zero, List.set_cons_succ])
                refine wpAnyH_take (i := 6) (oi := ({ dst := some 68, op := Op.move (Operand.tmp 12), type := 3, pos := "runs.go:99", after := #[{ on := 4, ground := Ground.guard }], guard := some (4, true) } : Oper)) (v := ?_) rfl (by kernel_rfl) (by kernel_rfl) (by kernel_rfl) (fun _ _ _ h => h) (Or.inl ⟨by rfl, ?_⟩) (by assumption) ?_
                rotate_left
                · (intro w hSw; (try dsimp only at hSw); go_simp) <;> with_reducible rfl
                (try simp only [Act.put, List.setIfInBounds_toArray, List.set_cons_zero, List.set_cons_succ])
                refine wpAnyH_take (i := 7) (oi := ({ dst := some 69, op := Op.indexAddr 29 (Operand.tmp 67) (Operand.tmp 68), type := 0, pos := "runs.go:99", after := #[{ on := 5, ground := Ground.data }, { on := 6, ground := Ground.data }, { on := 4, ground := Ground.guard }], guard := some (4, true) } : Oper)) (v := ?_) rfl (by kernel_rfl) (by kernel_rfl) (by kernel_rfl) (fun _ _ _ h => h) (Or.inl ⟨by rfl, ?_⟩) (by assumption) ?_
                rotate_left
                · (intro w hSw; (try dsimp only at hSw); go_simp) <;> with_reducible rfl
                (try simp only [Act.put, List.setIfInBounds_toArray, List.set_cons_zero, List.set_cons_succ])
                refine wpAnyH_take (i := 8) (oi := ({ dst := some 70, op := Op.fieldAddr 34 (Operand.tmp 69) 0, type := 0, pos := "runs.go:99", after := #[{ on := 7, ground := Ground.data }, { on := 4, ground := Ground.guard }], guard := some (4, true) } : Oper)) (v := ?_) rfl (by kernel_rfl) (by kernel_rfl) (by kernel_rfl) (fun _ _ _ h => h) (Or.inl ⟨by rfl, ?_⟩) (by assumption) ?_
                rotate_left
                · (intro w hSw; (try dsimp only at hSw); go_simp) <;> with_reducible rfl
                (try simp only [Act.put, List.setIfInBounds_toArray, List.set_cons_zero, List.set_cons_succ])
                refine wpAnyH_take (i := 9) (oi := ({ dst := some 71, op := Op.load 3 (Operand.tmp 70), type := 3, pos := "runs.go:99", after := #[{ on := 8, ground := Ground.data }, { on := 4, ground := Ground.guard }], guard := some (4, true) } : Oper)) (v := ?_) rfl (by kernel_rfl) (by kernel_rfl) (by kernel_rfl) (fun _ _ _ h => h) (Or.inl ⟨by rfl, ?_⟩) (by assumption) ?_
                rotate_left
                · (intro w hSw; (try dsimp only at hSw); go_simp) <;> with_reducible rfl
                (try simp only [Act.put, List.setIfInBounds_toArray, List.set_cons_zero, List.set_cons_succ])
                refine wpAnyH_take (i := 10) (oi := ({ dst := some 72, op := Op.load 34 (Operand.tmp 10), type := 34, pos := "runs.go:99", after := #[{ on := 4, ground := Ground.guard }], guard := some (4, true) } : Oper)) (v := ?_) rfl (by kernel_rfl) (by kernel_rfl) (by kernel_rfl) (fun _ _ _ h => h) (Or.inl ⟨by rfl, ?_⟩) (by assumption) ?_
                rotate_left
                · (intro w hSw; (try dsimp only at hSw); go_simp) <;> with_reducible rfl
                (try simp only [Act.put, List.setIfInBounds_toArray, List.set_cons_zero, List.set_cons_succ])
                refine wpAnyH_ready (rs := [11]) (by kernel_rfl) (by simp) ?_
                refine AllReadyH.cons (o := ({ dst := some 73, op := Op.call { callee := Callee.value (Operand.func 75), args := #[Operand.tmp 72], argTypes := #[34] }, type := 3, pos := "runs.go:99", after := #[{ on := 10, ground := Ground.data }, { on := 4, ground := Ground.chain }, { on := 4, ground := Ground.guard }], guard := some (4, true) } : Oper)) rfl (fun K hK => ?_) ?_
                · go_simp
                  refine (end_any _ p n ea HE.out.1 HE.out.2.1 HE.out.2.2).mono ?_
                  rintro e w6 ⟨rfl, hb6⟩
                  have hB6 : Below w.heap.size w w6 := below_call BW.out (below_drewL hb6)
                  have hX6 := BX.out.below (below_drewL hb6)
                  go_wp2_with fail
                  refine hK.out _ _ ?_ (fun hHeld => ?_)
                  · exact ⟨hX6.c0, hX6.c1, (hB6.cell (lt_of_cell C0.out)).trans C0.out, (hB6.cell (lt_of_cell C1.out)).trans C1.out⟩
                  clear hK K
                  (try simp only [Act.put, List.setIfInBounds_toArray, List.set_cons_zero, List.set_cons_succ])
                  refine wpAnyH_take (i := 12) (oi := ({ dst := some 74, op := Op.binOp BinOp.eql 3 (Operand.tmp 71) (Operand.tmp 73) 3, type := 4, pos := "runs.go:99", after := #[{ on := 9, ground := Ground.data }, { on := 11, ground := Ground.data }, { on := 4, ground := Ground.guard }], guard := some (4, true) } : Oper)) (v := ?_) rfl (by kernel_rfl) (by kernel_rfl) (by kernel_rfl) (fun _ _ _ h => h) (Or.inl ⟨by rfl, ?_⟩) (by assumption) ?_
                  rotate_left
                  · (intro w hSw; (try dsimp only at hSw); go_simp) <;> with_reducible rfl
                  (try simp only [Act.put, List.setIfInBounds_toArray, List.set_cons_zero, List.set_cons_succ])
                  refine wpAnyH_take (i := 13) (oi := ({ dst := some 75, op := Op.pick (Operand.tmp 66) (Operand.tmp 74) (Operand.const (Value.bool false)), type := 4, pos := "runs.go:99", after := #[{ on := 4, ground := Ground.data }, { on := 12, ground := Ground.data }], guard := none } : Oper)) (v := ?_) rfl (by kernel_rfl) (by kernel_rfl) (by kernel_rfl) (fun _ _ _ h => h) (Or.inl ⟨by rfl, ?_⟩) (by assumption) ?_
                  rotate_left
                  · (intro w hSw; (try dsimp only at hSw); go_simp) <;> with_reducible rfl
                  (try simp only [Act.put, List.setIfInBounds_toArray, List.set_cons_zero, List.set_cons_succ])
                  refine wpAnyH_done (by kernel_rfl) ?_ _
                  refine NoPanic.normal ?_
                  go_wp2_with fail
                  go_meet
                  exact ⟨by first | rfl | (simp; omega), hX6, hB6⟩
                exact AllReadyH.nil
              case rest =>
                obtain ⟨rfl, bx, bw⟩ := hcut
                have f0 := bx.c0
                have f1 := bx.c1
                have YW := Lib.hid bw
                clear bx bw d0 d1
                go_wp2_with (go_at_call 77; refine (changed_put _ (some ⟨bl, o, none⟩) l z c k k (k + 1 + (z - k)) p n HZ.out (HA.out.below YW.out) hl (by have := HF.out; omega) (by omega) rfl (by omega)).mono ?_; rintro e w9 ⟨A9, c9, rfl, hr9, hb9, hf9⟩)
                go_ret2
                refine ⟨A9, k + 1 + (z - k), c9, by rw [HR.out.2]; rfl, ?_, by rw [HR.out.1, HGV.out]; exact hr9, below_call YW.out hb9, hf9.mono YW.out.size⟩
                have := HZ.out
                have := HF.out
                rw [HR.out.1, HGV.out, List.length_append, List.length_take, List.length_cons, List.length_drop]
                omega
          · have hkl : ¬ k < l.length := by have := HZ.out; omega
            have hgB : M.gB l k ⟨p, n⟩ = ⟨p, n⟩ := by unfold M.gB M.jB; simp [hkl]
            have htB : M.toB l k ⟨p, n⟩ = k := by unfold M.toB M.jB; simp [hkl]
            have HGV := Lib.hid (show M.give l p n = l.take k ++ (⟨p, n⟩ :: l.drop k) by rw [GV.out, hgB, htB])
            clear hgB htB GV hkl hea
            go_cut [75] (fun v wx => v = .bool false ∧ Box wx g p n ∧ Below w.heap.size w wx)
            case first =>
              refine wp_region_noPanic ?_
              refine wp_region_held_drew (S := fun W => W.cell? ⟨g, 0, none⟩ = some (.int .i64 p) ∧ W.cell? ⟨g, 1, none⟩ = some (.int .i64 n)) (by kernel_rfl) (⟨BX.out.drew.c0, BX.out.drew.c1⟩) (fun hHeld => ?_)
              refine wpAnyH_take (i := 0) (oi := ({ dst := some 62, op := Op.move (Operand.tmp 12), type := 3, pos := "runs.go:99", after := #[], guard := none } : Oper)) (v := ?_) rfl (by kernel_rfl) (by kernel_rfl) (by kernel_rfl) (fun _ _ _ h => h) (Or.inl ⟨by rfl, ?_⟩) (by assumption) ?_
              rotate_left
              · (intro w hSw; (try dsimp only at hSw); go_simp) <;> with_reducible rfl
              (try simp only [Act.put, List.setIfInBounds_toArray, List.set_cons_zero, List.set_cons_succ])
              refine wpAnyH_take (i := 1) (oi := ({ dst := some 63, op := Op.move (Operand.tmp 0), type := 29, pos := "runs.go:99", after := #[], guard := none } : Oper)) (v := ?_) rfl (by kernel_rfl) (by kernel_rfl) (by kernel_rfl) (fun _ _ _ h => h) (Or.inl ⟨by rfl, ?_⟩) (by assumption) ?_
              rotate_left
              · (intro w hSw; (try dsimp only at hSw); go_simp) <;> with_reducible rfl
              (try simp only [Act.put, List.setIfInBounds_toArray, List.set_cons_zero, List.set_cons_succ])
              refine wpAnyH_take (i := 2) (oi := ({ dst := some 64, op := Op.call { callee := Callee.builtin Builtin.len, args := #[Operand.tmp 63], argTypes := #[29] }, type := 3, pos := "runs.go:99", after := #[{ on := 1, ground := Ground.data }], guard := none } : Oper)) (v := ?_) rfl (by kernel_rfl) (by kernel_rfl) (by kernel_rfl) (fun _ _ _ h => h) (Or.inl ⟨by rfl, ?_⟩) (by assumption) ?_
              rotate_left
              · (intro w hSw; (try dsimp only at hSw); go_simp) <;> with_reducible rfl
              (try simp only [Act.put, List.setIfInBounds_toArray, List.set_cons_zero, List.set_cons_succ])
              refine wpAnyH_take (i := 3) (oi := ({ dst := some 65, op := Op.binOp BinOp.lss 3 (Operand.tmp 62) (Operand.tmp 64) 3, type := 4, pos := "runs.go:99", after := #[{ on := 0, ground := Ground.data }, { on := 2, ground := Ground.data }], guard := none } : Oper)) (v := ?_) rfl (by kernel_rfl) (by kernel_rfl) (by kernel_rfl) (fun _ _ _ h => h) (Or.inl ⟨by rfl, ?_⟩) (by assumption) ?_
              rotate_left
              · (intro w hSw; (try dsimp only at hSw); go_simp) <;> with_reducible rfl
              (try simp only [Act.put, List.setIfInBounds_toArray, List.set_cons_zero, List.set_cons_succ])
              refine wpAnyH_take (i := 4) (oi := ({ dst := some 66, op := Op.move (Operand.tmp 65), type := 4, pos := "runs.go:99", after := #[{ on := 3, ground := Ground.data }], guard := none } : Oper)) (v := ?_) rfl (by kernel_rfl) (by kernel_rfl) (by kernel_rfl) (fun _ _ _ h => h) (Or.inl ⟨by rfl, ?_⟩) (by assumption) ?_
              rotate_left
              · (intro w hSw; (try dsimp only at hSw); go_simp) <;> with_reducible rfl
              (try simp only [Act.put, List.setIfInBounds_toArray, List.set_cons_zero, List.set_cons_succ])
              refine wpAnyH_take (i := 5) (oi := ({ dst := some 67, op := Op.move (Operand.tmp 0), type := 29, pos := "runs.go:99", after := #[{ on := 4, ground := Ground.guard }], guard := some (4, true) } : Oper)) (v := undef) rfl (by kernel_rfl) (by kernel_rfl) (by kernel_rfl) (fun _ _ _ h => h) (Or.inr ⟨by rfl, rfl⟩) (by assumption) ?_
              (try simp only [Act.put, List.setIfInBounds_toArray, List.set_cons_zero, List.set_cons_succ])
              refine wpAnyH_take (i := 6) (oi := ({ dst := some 68, op := Op.move (Operand.tmp 12), type := 3, pos := "runs.go:99", after := #[{ on := 4, ground := Ground.guard }], guard := some (4, true) } : Oper)) (v := undef) rfl (by kernel_rfl) (by kernel_rfl) (by kernel_rfl) (fun _ _ _ h => h) (Or.inr ⟨by rfl, rfl⟩) (by assumption) ?_
              (try simp only [Act.put, List.setIfInBounds_toArray, List.set_cons_zero, List.set_cons_succ])
              refine wpAnyH_take (i := 7) (oi := ({ dst := some 69, op := Op.indexAddr 29 (Operand.tmp 67) (Operand.tmp 68), type := 0, pos := "runs.go:99", after := #[{ on := 5, ground := Ground.data }, { on := 6, ground := Ground.data }, { on := 4, ground := Ground.guard }], guard := some (4, true) } : Oper)) (v := undef) rfl (by kernel_rfl) (by kernel_rfl) (by kernel_rfl) (fun _ _ _ h => h) (Or.inr ⟨by rfl, rfl⟩) (by assumption) ?_
              (try simp only [Act.put, List.setIfInBounds_toArray, List.set_cons_zero, List.set_cons_succ])
              refine wpAnyH_take (i := 8) (oi := ({ dst := some 70, op := Op.fieldAddr 34 (Operand.tmp 69) 0, type := 0, pos := "runs.go:99", after := #[{ on := 7, ground := Ground.data }, { on := 4, ground := Ground.guard }], guard := some (4, true) } : Oper)) (v := undef) rfl (by kernel_rfl) (by kernel_rfl) (by kernel_rfl) (fun _ _ _ h => h) (Or.inr ⟨by rfl, rfl⟩) (by assumption) ?_
              (try simp only [Act.put, List.setIfInBounds_toArray, List.set_cons_zero, List.set_cons_succ])
              refine wpAnyH_take (i := 9) (oi := ({ dst := some 71, op := Op.load 3 (Operand.tmp 70), type := 3, pos := "runs.go:99", after := #[{ on := 8, ground := Ground.data }, { on := 4, ground := Ground.guard }], guard := some (4, true) } : Oper)) (v := undef) rfl (by kernel_rfl) (by kernel_rfl) (by kernel_rfl) (fun _ _ _ h => h) (Or.inr ⟨by rfl, rfl⟩) (by assumption) ?_
              (try simp only [Act.put, List.setIfInBounds_toArray, List.set_cons_zero, List.set_cons_succ])
              refine wpAnyH_take (i := 10) (oi := ({ dst := some 72, op := Op.load 34 (Operand.tmp 10), type := 34, pos := "runs.go:99", after := #[{ on := 4, ground := Ground.guard }], guard := some (4, true) } : Oper)) (v := undef) rfl (by kernel_rfl) (by kernel_rfl) (by kernel_rfl) (fun _ _ _ h => h) (Or.inr ⟨by rfl, rfl⟩) (by assumption) ?_
              (try simp only [Act.put, List.setIfInBounds_toArray, List.set_cons_zero, List.set_cons_succ])
              refine wpAnyH_take (i := 11) (oi := ({ dst := some 73, op := Op.call { callee := Callee.value (Operand.func 75), args := #[Operand.tmp 72], argTypes := #[34] }, type := 3, pos := "runs.go:99", after := #[{ on := 10, ground := Ground.data }, { on := 4, ground := Ground.chain }, { on := 4, ground := Ground.guard }], guard := some (4, true) } : Oper)) (v := undef) rfl (by kernel_rfl) (by kernel_rfl) (by kernel_rfl) (fun _ _ _ h => h) (Or.inr ⟨by rfl, rfl⟩) (by assumption) ?_
              (try simp only [Act.put, List.setIfInBounds_toArray, List.set_cons_zero, List.set_cons_succ])
              refine wpAnyH_take (i := 12) (oi := ({ dst := some 74, op := Op.binOp BinOp.eql 3 (Operand.tmp 71) (Operand.tmp 73) 3, type := 4, pos := "runs.go:99", after := #[{ on := 9, ground := Ground.data }, { on := 11, ground := Ground.data }, { on := 4, ground := Ground.guard }], guard := some (4, true) } : Oper)) (v := undef) rfl (by kernel_rfl) (by kernel_rfl) (by kernel_rfl) (fun _ _ _ h => h) (Or.inr ⟨by rfl, rfl⟩) (by assumption) ?_
              (try simp only [Act.put, List.setIfInBounds_toArray, List.set_cons_zero, List.set_cons_succ])
              refine wpAnyH_take (i := 13) (oi := ({ dst := some 75, op := Op.pick (Operand.tmp 66) (Operand.tmp 74) (Operand.const (Value.bool false)), type := 4, pos := "runs.go:99", after := #[{ on := 4, ground := Ground.data }, { on := 12, ground := Ground.data }], guard := none } : Oper)) (v := ?_) rfl (by kernel_rfl) (by kernel_rfl) (by kernel_rfl) (fun _ _ _ h => h) (Or.inl ⟨by rfl, ?_⟩) (by assumption) ?_
              rotate_left
              · (intro w hSw; (try dsimp only at hSw); go_simp) <;> with_reducible rfl
              (try simp only [Act.put, List.setIfInBounds_toArray, List.set_cons_zero, List.set_cons_succ])
              refine wpAnyH_done (by kernel_rfl) ?_ _
              refine NoPanic.normal ?_
              go_wp2_with fail
              go_meet
              exact ⟨by first | rfl | (simp; omega), BX.out.drew, BW.out.drew⟩
            case rest =>
              obtain ⟨rfl, bx, bw⟩ := hcut
              have f0 := bx.c0
              have f1 := bx.c1
              have YW := Lib.hid bw
              clear bx bw
              go_wp2_with (go_at_call 77; refine (changed_put _ (some ⟨bl, o, none⟩) l z c k k (k + 1 + (z - k)) p n HZ.out (HA.out.below YW.out) hl (by have := HF.out; omega) (by omega) rfl (by omega)).mono ?_; rintro e w9 ⟨A9, c9, rfl, hr9, hb9, hf9⟩)
              go_ret2
              refine ⟨A9, k + 1 + (z - k), c9, by rw [HR.out.2]; rfl, ?_, by rw [HR.out.1, HGV.out]; exact hr9, below_call YW.out hb9, hf9.mono YW.out.size⟩
              have := HZ.out
              have := HF.out
              rw [HR.out.1, HGV.out, List.length_append, List.length_take, List.length_cons, List.length_drop]
              omega
end Go.Proofs.Ytmagdhcpbofkbaa
