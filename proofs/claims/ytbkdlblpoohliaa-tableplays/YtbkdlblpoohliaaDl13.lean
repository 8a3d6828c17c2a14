/-
  The document's Live.
-/
import Derived.Test.YtbkdlblpoohliaaDw13
import Derived.Test.YtbkdlblpoohliaaP13
namespace Go.Proofs.Ytbkdlblpoohliaa
open Go.ChangeShapes Go.WideShapes Go.ChangeAt Go.RowKit Go.Deep T13
set_option linter.unusedVariables false
set_option maxRecDepth 20000

namespace M
def livI {V : Type} (K : Int) (S : Tt V) (h : Nat) : Int := match S.liv K h with | some i => (i : Int) | none => -1
theorem liv_pack {V : Type} {K : Int} {S : Tt V} (hok : S.Ok K) (hl : S.s.length ≤ 1000000) {k h : Nat} {e : Te V} (he : S.s[k]? = some e) (hu : e.u = true) : hpV K (k : Int) (e.g : Int) = (h : Int) ↔ S.liv K h = some k := by
  have hk := (List.getElem?_eq_some_iff.1 he).1
  have hg := hok.gn k e he
  have hK := hok.kn (fun e1 => by rw [e1] at he; simp at he)
  have h1 := hK.1
  have h2 := hK.2
  have hr : 1 ≤ K ∧ K ≤ 3 ∧ 0 ≤ (k : Int) ∧ (k : Int) < 4294967296 ∧ 0 ≤ (e.g : Int) ∧ (e.g : Int) < 1073741824 := ⟨h1, h2, by omega, by omega, by omega, by omega⟩
  constructor
  · intro e1
    obtain ⟨P, hP, _, hb, hk', hs, hg'⟩ := hpV_parts hr
    have : P = h := by omega
    subst this
    have es : huS P = k := by omega
    rw [← es]
    exact liv_of hb (by rw [es]; exact he) hu hk' (by omega)
  · intro e1
    obtain ⟨hb, hs, x, hx, _, hk', hg'⟩ := liv_some e1
    rw [he] at hx
    cases hx
    rw [hpV_yes _ _ _ hr]
    unfold huS at hs
    unfold huG at hg'
    unfold huK at hk'
    rw [if_pos hb] at hs hg'
    omega
end M
/-- The document's table in memory. -/
structure Doc13 (w : World) (B : Nat) (S : M.Tt Int) (A : Option Addr) (n c : Nat) (F : Option Addr) (m d : Nat) : Prop where
  row : w.ownsRow B 41 3 (.slice A n c) n (ecs S.s)
  fre : w.ownsRow B 3 1 (.slice F m d) m (nats S.f)
section
variable {w w' : World} {B B' n c m d : Nat} {S : M.Tt Int} {A F : Option Addr} {O : Nat → Prop}
theorem Doc13.below (h : Doc13 w B S A n c F m d) (hb : Below w.heap.size w w') : Doc13 w' B S A n c F m d := ⟨row_below h.row hb, row_below h.fre hb⟩
theorem Doc13.kept (h : Doc13 w B S A n c F m d) (hk : Kept w w' O) (hA : ∀ x, rowD A x → ¬ O x) (hF : ∀ x, rowD F x → ¬ O x) : Doc13 w' B S A n c F m d := ⟨row_kept h.row hk hA, row_kept h.fre hk hF⟩
theorem Doc13.n_eq (h : Doc13 w B S A n c F m d) : n = S.s.length := e_len h.row
theorem Doc13.m_eq (h : Doc13 w B S A n c F m d) : m = S.f.length := nats_len h.fre
end
set_option maxHeartbeats 4000000 in
theorem rlive_any (w : World) (B : Nat) (K : Int) (S : M.Tt Int) (A : Option Addr) (n c : Nat) (F : Option Addr) (m d : Nat) (h : Doc13 w B S A n c F m d) (hok : S.Ok K) (hl : S.s.length ≤ 1000000) (hh : Nat) (h64 : hh < 18446744073709551616) :
    Calls Try.prog 13 #[tv K A n c F m d, .int .u64 (hh : Int)] w fun r w' => r = .returned (.int .i64 (M.livI K S hh)) ∧ Below w.heap.size w w' := by
  have hn := h.n_eq
  have b1 : Below w.heap.size w (w.alloc (.cells #[.int .i64 K, .slice A n c, .slice F m d] 29)) := (Below.refl _ _).alloc (Nat.le_refl _) _
  obtain ⟨w1, hw1⟩ : ∃ y, y = w.alloc (.cells #[.int .i64 K, .slice A n c, .slice F m d] 29) := ⟨_, rfl⟩
  obtain ⟨g, hg⟩ : ∃ y, y = w.heap.size := ⟨_, rfl⟩
  have t1 : Bt w1 g K A n c F m d := by rw [hw1, hg]; exact Bt.new w K A n c F m d
  rw [← hw1] at b1
  have HW := Lib.hid hw1
  have HG := Lib.hid hg
  have H1 := Lib.hid (show Bt w1 g K A n c F m d ∧ Doc13 w1 B S A n c F m d ∧ Below w.heap.size w w1 from ⟨t1, h.below b1, b1⟩)
  have HO := Lib.hid hok
  have HN := Lib.hid hn
  have hn6 : n ≤ 1000000 := by omega
  clear t1 b1 hw1 hg h hok hn
  go_enter Try.func13, Try.ntmps13
  go_upto_region 1 with fail
  rw [← HW.out, ← HG.out]
  go_wp2_with fail
  go_loopw [5] (fun i wr => ∃ (k : Nat), k ≤ n ∧ i = .int .i64 (k : Int) ∧ Hid (Bt wr g K A n c F m d ∧ Doc13 wr B S A n c F m d ∧ Below w.heap.size w wr ∧ ∀ j, j < k → S.liv K hh ≠ some j)) (fun i _ => n - (intOf i).toNat)
  case atStart => exact ⟨0, by omega, rfl, Lib.hid ⟨H1.out.1, H1.out.2.1, H1.out.2.2, fun j hj => by omega⟩⟩
  case round =>
    clear H1
    obtain ⟨k, hk, rfl, HI⟩ := hrel
    have x1 := HI.out.1.c1
    by_cases hlt : k < n
    · obtain ⟨e, he⟩ : ∃ e, S.s[k]? = some e := ⟨_, List.getElem?_eq_getElem (by have := HN.out; omega)⟩
      obtain ⟨ge, rfl, _, enl, q0, q1, q2⟩ := e_cells HI.out.2.1.row he
      have hK := HO.out.kn (fun e1 => by rw [e1] at he; simp at he)
      have hK1 := hK.1
      have hK2 := hK.2
      have hge := HO.out.gn k e he
      have x1' : wr.drew.cell? ⟨g, 1, none⟩ = some (.slice (some ⟨ge, 0, none⟩) n c) := x1
      have x0' : wr.drew.cell? ⟨g, 0, none⟩ = some (.int .i64 K) := HI.out.1.c0
      have q1' : wr.drew.cell? ⟨ge, k * 3 + 1, none⟩ = some (.bool e.u) := q1
      have q2' : wr.drew.cell? ⟨ge, k * 3 + 2, none⟩ = some (.int .i64 (e.g : Int)) := q2
      obtain ⟨gn, hgn⟩ : ∃ y, e.g = y := ⟨_, rfl⟩
      obtain ⟨bu, hbu⟩ : ∃ y, e.u = y := ⟨_, rfl⟩
      rw [hgn] at q2' hge
      rw [hbu] at q1'
      have HE := Lib.hid (show S.s[k]? = some e ∧ e.g = gn ∧ e.u = bu from ⟨he, hgn, hbu⟩)
      have LV : bu = true → (M.hpV K (k : Int) (gn : Int) = (hh : Int) ↔ S.liv K hh = some k) := fun e1 => by
        have := M.liv_pack HO.out hl (h := hh) HE.out.1 (HE.out.2.2.trans e1)
        rwa [HE.out.2.1] at this
      have ND : bu = false → S.liv K hh ≠ some k := fun e1 e2 => by
        obtain ⟨_, _, x, hx, hu, _⟩ := M.liv_some e2
        rw [HE.out.1] at hx
        cases hx
        rw [HE.out.2.2, e1] at hu
        cases hu
      have NZ : hh = 0 → S.liv K hh ≠ some k := fun e1 e2 => by
        have := (M.liv_some e2).1
        subst e1
        exact absurd this (by decide)
      have HLV := M.Shut13.mk LV
      have HND := M.Shut13.mk ND
      have HNZ := M.Shut13.mk NZ
      have HB := Lib.hid (fun N => below_drewN' (Below.refl wr.heap.size wr) N)
      have NEXT := Lib.hid (fun (N : Nat) (hne : S.liv K hh ≠ some k) => (show Bt (wr.drewN N) g K (some ⟨ge, 0, none⟩) n c F m d ∧ Doc13 (wr.drewN N) B S (some ⟨ge, 0, none⟩) n c F m d ∧ Below w.heap.size w (wr.drewN N) ∧ ∀ j, j < k + 1 → S.liv K hh ≠ some j from ⟨HI.out.1.below (HB.out N), HI.out.2.1.below (HB.out N), below_call HI.out.2.2.1 (HB.out N), fun j hj => by
        rcases Nat.eq_or_lt_of_le (Nat.le_of_lt_succ hj) with e1 | e1
        · rw [e1]; exact hne
        · exact HI.out.2.2.2 j e1⟩))
      have BB := Lib.hid (fun N => below_call HI.out.2.2.1 (HB.out N))
      have q1'' : wr.cell? ⟨ge, k * 3 + 1, none⟩ = some (.bool bu) := q1'
      clear he enl q0 q1 q2 hK hgn hbu LV ND NZ
      rcases Nat.eq_zero_or_pos hh with h0 | h0
      · have z0 : ((hh : Int) != 0) = false := by simp [h0]
        have NE := Lib.hid (HNZ.out h0)
        clear h0
        go_wp2_with fail
        go_quiet (fail)
        go_wp2_with fail
        go_roundw
        case rel => exact ⟨k + 1, by omega, by go_num, Lib.hid (NEXT.out _ NE.out)⟩
        case measure => simp [intOf]; omega
      · have z0 : ((hh : Int) != 0) = true := by simp; omega
        cases bu with
        | false =>
          have NE := Lib.hid (HND.out rfl)
          go_wp2_with fail
          go_quiet (fail)
          go_wp2_with fail
          go_roundw
          case rel => exact ⟨k + 1, by omega, by go_num, Lib.hid (NEXT.out _ NE.out)⟩
          case measure => simp [intOf]; omega
        | true =>
          obtain ⟨p, hp⟩ : ∃ p, M.hpV K (k : Int) (gn : Int) = p := ⟨_, rfl⟩
          have HP := M.Shut13.mk hp
          have LV := HLV.out rfl
          rw [hp] at LV
          clear hp
          by_cases hph : p = (hh : Int)
          · have zp : (p == (hh : Int)) = true := by simpa using hph
            have ES : M.livI K S hh = (k : Int) := by unfold M.livI; rw [LV.1 hph]
            have HES := M.Shut13.mk ES
            clear LV hph ES
            go_wp2_with fail
            go_region_with (refine (rhpack_at K (k : Int) (gn : Int) p rfl rfl rfl (by omega) (by omega) HP.out _).mono ?_; rintro _ _ ⟨rfl, rfl⟩)
            all_goals
              go_wp2_with fail
              go_ret
              exact ⟨ret1 HES.out.symm, BB.out _⟩
          · have zp : (p == (hh : Int)) = false := by simpa using hph
            have NE := M.Shut13.mk (show S.liv K hh ≠ some k from fun e1 => hph (LV.2 e1))
            clear LV hph
            go_wp2_with fail
            go_region_with (refine (rhpack_at K (k : Int) (gn : Int) p rfl rfl rfl (by omega) (by omega) HP.out _).mono ?_; rintro _ _ ⟨rfl, rfl⟩)
            all_goals
              go_wp2_with fail
              go_roundw
              case rel => exact ⟨k + 1, by omega, by go_num, Lib.hid (NEXT.out _ NE.out)⟩
              case measure => simp [intOf]; omega
    · have hnone : S.liv K hh = none := M.liv_none_of (fun i hi => by
        obtain ⟨_, _, x, hx, _⟩ := M.liv_some hi
        have h1 := (List.getElem?_eq_some_iff.1 hx).1
        exact HI.out.2.2.2 i (by have := HN.out; omega) hi)
      have ES : M.livI K S hh = -1 := by unfold M.livI; rw [hnone]
      have HES := M.Shut13.mk ES
      clear hnone ES
      go_wp2_with fail
      go_ret
      exact ⟨ret1 HES.out.symm, HI.out.2.2.1⟩
end Go.Proofs.Ytbkdlblpoohliaa
