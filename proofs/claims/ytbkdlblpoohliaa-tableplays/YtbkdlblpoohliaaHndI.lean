/-
  A table of ints: Handles.
-/
import Derived.Test.YtbkdlblpoohliaaLenI
namespace Go.Proofs.Ytbkdlblpoohliaa.TI
open Go.ChangeShapes Go.WideShapes Go.ChangeAt Go.RowKit Go.Deep T13
set_option linter.unusedVariables false
set_option maxRecDepth 20000

section
variable {w : World} {B t : Nat} {K : Int} {S : M.Tt Th} {Q : Nat → Prop}
set_option maxHeartbeats 4000000 in
theorem hnd_any (h : Has w B t K S Q) (hok : S.Ok K) (hl : S.s.length ≤ 1000000) :
    Calls Try.prog 20 #[.pointer (some ⟨t, 0, none⟩)] w fun e w' => ∃ A' n' c', e = .returned (.slice A' n' c') ∧ w'.ownsRow w.heap.size 31 1 (.slice A' n' c') n' (hds (S.hs K)) ∧ Below w.heap.size w w' := by
  have hfl := hok.f_le
  obtain ⟨r, hr⟩ : ∃ r : Nat, (S.s.length : Int) - (S.f.length : Int) = (r : Int) := ⟨S.s.length - S.f.length, by omega⟩
  have hr6 : r ≤ 1000000 := by omega
  have hlen := len_any h hfl hl
  rw [hr] at hlen
  have mk := make_hds r hr6
  obtain ⟨A, F, n, c, m, d, ht, hA, hF⟩ := h.ex
  have hn := ht.n_eq
  have hn6 : n ≤ 1000000 := by omega
  have HL := Lib.hid hlen
  have HT := Lib.hid ht
  have HOK := Lib.hid hok
  have HN := Lib.hid hn
  have HR6 := Lib.hid hr6
  obtain ⟨i0, hi0, hi1, hi2, hi3⟩ := infoU
  have HI := Lib.hid (show _ ∧ _ ∧ _ ∧ _ from ⟨hi0, hi1, hi2, hi3⟩)
  clear h hfl hr hlen ht hA hF hok hl hn hi0 hi1 hi2 hi3 hr6
  go_enter Try.func20, Try.ntmps20
  go_upto_region 3 with fail
  go_upto_region 4 with (refine HL.out.mono ?_; rintro _ w1 ⟨rfl, b1⟩)
  have own0 := own_hds r HR6.out w.heap.size w1 b1.size
  have bel0 := b1.alloc b1.size (.cells (madeCells #[.int .u64 0] r) 31)
  obtain ⟨w2, hw2⟩ : ∃ y, y = w1.alloc (.cells (madeCells #[.int .u64 0] r) 31) := ⟨_, rfl⟩
  obtain ⟨g, hg⟩ : ∃ y, y = w1.heap.size := ⟨_, rfl⟩
  rw [← hw2, ← hg] at own0
  rw [← hw2] at bel0
  rw [← hw2, ← hg]
  have t2 := HT.out.kept (Kept.of_below bel0 (fun _ => False)) id (fun _ _ => id) (fun _ _ => id)
  have x1 := t2.c1
  have OW := Lib.hid own0
  have BE := Lib.hid bel0
  clear own0 bel0 hw2 hg t2 b1 mk
  go_wp2_with fail
  clear x1
  go_loopw [3, 16] (fun a i wr => ∃ (k t2 c2 : Nat) (A2 : Option Addr), k ≤ n ∧ i = .int .i64 (k : Int) ∧ a = .slice A2 t2 c2 ∧ wr.ownsRow w.heap.size 31 1 (.slice A2 t2 c2) t2 (hds (M.hnd K (S.s.take k) 0)) ∧ t2 ≤ k ∧ Below w.heap.size w wr) (fun _ i _ => n - (intOf i).toNat)
  case atStart => exact ⟨0, 0, r, _, by omega, rfl, rfl, OW.out, by omega, BE.out⟩
  case round =>
    obtain ⟨k, t2, c2, A2, hk, rfl, rfl, hrow, htk, hb⟩ := hrel
    by_cases hlt : k < n
    · have hks : k < S.s.length := by have := HN.out; omega
      obtain ⟨e, he⟩ : ∃ e, S.s[k]? = some e := ⟨_, List.getElem?_eq_getElem hks⟩
      have hKK := HOK.out.kn (fun e => by rw [e] at hks; simp at hks)
      have hK1 := hKK.1
      have hK2 := hKK.2
      have hge := HOK.out.gn k e he
      have tw := HT.out.kept (Kept.of_below hb (fun _ => False)) id (fun _ _ => id) (fun _ _ => id)
      obtain ⟨g', rfl, hin, _, j0, j1, _⟩ := tw.slot he
      have x1 := tw.c1
      have x1' : wr.drew.cell? ⟨t, 1, none⟩ = some (.slice (some ⟨g', 0, none⟩) n c) := x1
      have htake : S.s.take (k + 1) = S.s.take k ++ [e] := by rw [List.take_add_one, he]; rfl
      have hsn := M.hnd_snoc K (S.s.take k) e 0
      rw [← htake, List.length_take, Nat.min_eq_left (by omega), Nat.zero_add] at hsn
      obtain ⟨q, hq⟩ : ∃ q, e.g = q := ⟨_, rfl⟩
      rw [hq] at j1 hge hsn
      have RW := Lib.hid hrow
      have DB := Lib.hid (fun N => below_drewN' hb N)
      have HB := Lib.hid hb
      clear hrow tw he htake hq hb
      cases hu : e.u with
      | false =>
        rw [hu, if_neg (by simp), List.append_nil] at hsn
        rw [hu, show M.kd K false = 0 from rfl] at j0
        have j0' : wr.drew.cell? ⟨g', k * 3, none⟩ = some (.int .i64 0) := j0
        have j1' : wr.drew.cell? ⟨g', k * 3 + 1, none⟩ = some (.int .i64 (q : Int)) := j1
        have hp : M.hpV 0 (k : Int) (q : Int) = 0 := M.hpV_no _ _ _ (fun e => by omega)
        have HP := Lib.hid hp
        have HS := Lib.hid hsn
        clear hp hsn hu
        go_wp2_with fail
        go_region_with (refine (hpack_at 0 (k : Int) (q : Int) 0 rfl rfl rfl (by omega) (by omega) HP.out _).mono ?_; rintro _ _ ⟨rfl, rfl⟩)
        all_goals
          go_wp2_with fail
          go_roundw
          case rel => exact ⟨k + 1, t2, c2, A2, by omega, by go_num, rfl, by rw [HS.out]; exact RW.out, by omega, DB.out _⟩
          case measure => simp [intOf]; omega
      | true =>
        rw [hu, if_pos rfl] at hsn
        rw [hu, show M.kd K true = K from rfl] at j0
        have j0' : wr.drew.cell? ⟨g', k * 3, none⟩ = some (.int .i64 K) := j0
        have j1' : wr.drew.cell? ⟨g', k * 3 + 1, none⟩ = some (.int .i64 (q : Int)) := j1
        obtain ⟨p, hp⟩ : ∃ p, M.hpV K (k : Int) (q : Int) = p := ⟨_, rfl⟩
        have ep := M.hpV_yes K (k : Int) (q : Int) ⟨hK1, hK2, by omega, by omega, by omega, by omega⟩
        rw [hp] at hsn ep
        have zp : (p != 0) = true := by simp; omega
        have HP := Lib.hid hp
        have HS := Lib.hid hsn
        have OWN := Lib.hid (fun N => (show (wr.drewN N).ownsRow w.heap.size 31 1 (.slice A2 t2 c2) t2 (hds (M.hnd K (S.s.take k) 0)) from RW.out).alloc (.cells #[.int .u64 p] 31))
        have NEW := Lib.hid (fun N => one_new (wr.drewN N) (.int .u64 p) 31)
        have AB := Lib.hid (fun N => (DB.out N).alloc (DB.out N).size (.cells #[.int .u64 p] 31))
        have ht6 : t2 ≤ 1000000 := by omega
        clear hp hsn hu ep
        go_wp2_with fail
        go_region_with (refine (hpack_at K (k : Int) (q : Int) p rfl rfl rfl (by omega) (by omega) HP.out _).mono ?_; rintro _ _ ⟨rfl, rfl⟩)
        all_goals
          go_wp2_with (at_builtin; refine wpList_append_lies _ rfl _ _ 30 rfl w.heap.size 31 i0 (.int .u64 0) 1 8 Try.underlying30 HI.out.1 HI.out.2.1 HI.out.2.2.1 HI.out.2.2.2 rfl (by decide) (.slice A2 t2 c2) t2 (hds (M.hnd K (S.s.take k) 0)) rfl (OWN.out _) ⟨wr.heap.size, 0, none⟩ 1 1 [.int .u64 p] rfl rfl (NEW.out _) (hds_one [p]) (by decide) (by unfold maxLen; omega) (by omega) (AB.out _).size _ rfl ?_; intro g1 c4 w4 hrow hgr hat hlt; (have B4 := Lib.hid ((AB.out _).grown hgr (AB.out _).size (fun x hx => (row_low (OWN.out 0) (own_D hx)).1))); (have R4 := Lib.hid hrow); clear hrow hgr hat hlt)
          go_roundw
          case rel => exact ⟨k + 1, t2 + 1, c4, _, by omega, by go_num, rfl, by rw [HS.out, hds_append]; exact R4.out, by omega, B4.out⟩
          case measure => simp [intOf]; omega
    · have e : k = n := by omega
      subst e
      have HB := Lib.hid hb
      have ht : S.s.take k = S.s := List.take_of_length_le (by have := HN.out; omega)
      rw [ht] at hrow
      have RW := Lib.hid hrow
      clear hrow hb ht
      go_wp2_with fail
      go_ret
      exact ⟨_, _, _, rfl, RW.out, HB.out⟩
end
end Go.Proofs.Ytbkdlblpoohliaa.TI
