/-
  The document's Handles.
-/
import Derived.Test.YtbkdlblpoohliaaDl13
import Derived.Test.YtbkdlblpoohliaaSq
namespace Go.Proofs.Ytbkdlblpoohliaa
open Go.ChangeShapes Go.WideShapes Go.ChangeAt Go.RowKit Go.Deep T13
set_option linter.unusedVariables false
set_option maxRecDepth 20000

set_option maxHeartbeats 4000000 in
theorem rhnd_any (w : World) (B : Nat) (K : Int) (S : M.Tt Int) (A : Option Addr) (n c : Nat) (F : Option Addr) (m d : Nat) (h : Doc13 w B S A n c F m d) (hok : S.Ok K) (hl : S.s.length ≤ 900000) :
    Calls Try.prog 21 #[tv K A n c F m d] w fun e w' => ∃ A' n' c', e = .returned (.slice A' n' c') ∧ w'.ownsRow w.heap.size 31 1 (.slice A' n' c') n' (hds (S.hs K)) ∧ Below w.heap.size w w' := by
  have hn := h.n_eq
  have b1 : Below w.heap.size w (w.alloc (.cells #[.int .i64 K, .slice A n c, .slice F m d] 29)) := (Below.refl _ _).alloc (Nat.le_refl _) _
  obtain ⟨w1, hw1⟩ : ∃ y, y = w.alloc (.cells #[.int .i64 K, .slice A n c, .slice F m d] 29) := ⟨_, rfl⟩
  obtain ⟨g, hg⟩ : ∃ y, y = w.heap.size := ⟨_, rfl⟩
  have t1 : Bt w1 g K A n c F m d := by rw [hw1, hg]; exact Bt.new w K A n c F m d
  rw [← hw1] at b1
  have HW := Lib.hid hw1
  have HG := Lib.hid hg
  have H1 := Lib.hid (show Bt w1 g K A n c F m d ∧ Doc13 w1 B S A n c F m d ∧ Below w.heap.size w w1 from ⟨t1, h.below b1, b1⟩)
  have HO := Lib.hid hok
  have HN := Lib.hid hn
  have hn6 : n ≤ 900000 := by omega
  clear t1 b1 hw1 hg h hok hn
  go_enter Try.func21, Try.ntmps21
  go_upto_region 1 with fail
  rw [← HW.out, ← HG.out]
  go_wp2_with fail
  go_loopw [3, 4] (fun a i wr => ∃ (k t2 c2 : Nat) (A2 : Option Addr), k ≤ n ∧ i = .int .i64 (k : Int) ∧ a = .slice A2 t2 c2 ∧ t2 ≤ k ∧ Hid (Bt wr g K A n c F m d ∧ Doc13 wr B S A n c F m d ∧ Below w.heap.size w wr ∧ wr.ownsRow w.heap.size 31 1 (.slice A2 t2 c2) t2 (hds (M.hnd K (S.s.take k) 0)) ∧ (∀ x, rowD A2 x → w1.heap.size ≤ x) ∧ w1.heap.size ≤ wr.heap.size)) (fun _ i _ => n - (intOf i).toNat)
  case atStart => exact ⟨0, 0, 0, none, by omega, rfl, rfl, by omega, Lib.hid ⟨H1.out.1, H1.out.2.1, H1.out.2.2, World.ownsRow_nil _ _ _ _, fun x hx => absurd hx rowD_none, Nat.le_refl _⟩⟩
  case round =>
    obtain ⟨k, t2, c2, A2, hk, rfl, rfl, htk, HI⟩ := hrel
    have x1 := HI.out.1.c1
    by_cases hlt : k < n
    · obtain ⟨e, he⟩ : ∃ e, S.s[k]? = some e := ⟨_, List.getElem?_eq_getElem (by have := HN.out; omega)⟩
      obtain ⟨ge, rfl, _, enl, q0, q1, q2⟩ := e_cells HI.out.2.1.row he
      have hK := HO.out.kn (fun e1 => by rw [e1] at he; simp at he)
      have hK1 := hK.1
      have hK2 := hK.2
      have hge := HO.out.gn k e he
      have htake : S.s.take (k + 1) = S.s.take k ++ [e] := by rw [List.take_add_one, he]; rfl
      have hsn := M.hnd_snoc K (S.s.take k) e 0
      rw [← htake, List.length_take, Nat.min_eq_left (by have := HN.out; omega), Nat.zero_add] at hsn
      obtain ⟨gn, hgn⟩ : ∃ y, e.g = y := ⟨_, rfl⟩
      rw [hgn] at q2 hge hsn
      clear he enl q0 hK htake hgn
      cases hu : e.u with
      | false =>
        rw [hu, if_neg (by simp), List.append_nil] at hsn
        rw [hu] at q1
        have HS := M.Shut13.mk hsn
        clear hsn hu
        go_wp2_with fail
        go_roundw
        case rel => exact ⟨k + 1, t2, c2, A2, by omega, by go_num, rfl, by omega, Lib.hid ⟨HI.out.1, HI.out.2.1, HI.out.2.2.1, by rw [HS.out]; exact HI.out.2.2.2.1, HI.out.2.2.2.2⟩⟩
        case measure => simp [intOf]; omega
      | true =>
        rw [hu, if_pos rfl] at hsn
        rw [hu] at q1
        obtain ⟨p, hp⟩ : ∃ p, M.hpV K (k : Int) (gn : Int) = p := ⟨_, rfl⟩
        rw [hp] at hsn
        have HP := M.Shut13.mk hp
        have HS := M.Shut13.mk hsn
        have HCP := Lib.hid (fun W => rhpack_at (is := (k : Int)) (ig := (gn : Int)) K (k : Int) (gn : Int) p rfl rfl rfl (by omega) (by omega) HP.out W)
        have ht6 : t2 ≤ 900000 := by omega
        have x0 := HI.out.1.c0
        have hb3' : Below wr.heap.size wr ((wr.alloc (.cells #[.int .u64 p] 31)).drew) := ((Below.refl wr.heap.size wr).alloc (Nat.le_refl _) _).drew
        have R3 := Lib.hid (row_below HI.out.2.2.2.1 hb3')
        have B3 := Lib.hid hb3'
        have y0 : ((wr.alloc (.cells #[.int .u64 p] 31)).drew).cell? ⟨g, 0, none⟩ = some (.int .i64 K) := (hb3'.cell (lt_of_cell x0)).trans x0
        have y1 : ((wr.alloc (.cells #[.int .u64 p] 31)).drew).cell? ⟨g, 1, none⟩ = some (.slice (some ⟨ge, 0, none⟩) n c) := (hb3'.cell (lt_of_cell x1)).trans x1
        have y2 : ((wr.alloc (.cells #[.int .u64 p] 31)).drew).cell? ⟨ge, k * 3 + 2, none⟩ = some (.int .i64 (gn : Int)) := (hb3'.cell (lt_of_cell q2)).trans q2
        have HU0 := Lib.hid infoU
        have NEW := Lib.hid (show ∀ j u, [Value.int .u64 p][j]? = some u → ((wr.alloc (.cells #[.int .u64 p] 31)).drew).cell? ((⟨wr.heap.size, 0, none⟩ : Addr).add j) = some u from one_new wr (.int .u64 p) 31)
        have SZ := Lib.hid (show w.heap.size ≤ ((wr.alloc (.cells #[.int .u64 p] 31)).drew).heap.size from (below_call HI.out.2.2.1 B3.out).size)
        have OFF := Lib.hid (show ¬ rowD A2 g ∧ ¬ rowD A2 ge from ⟨row_off HI.out.2.2.2.1 HI.out.1.blk (by decide), fun hx => row_apart HI.out.2.2.2.1 HI.out.2.1.row (by decide) hx ⟨_, rfl, rfl⟩⟩)
        have OFFF := Lib.hid (show ∀ x, rowD F x → ¬ rowD A2 x from fun x hx hx2 => row_apart HI.out.2.2.2.1 HI.out.2.1.fre (by decide) hx2 hx)
        have SW := Lib.hid HI.out.2.2.2.2.2
        clear hp hsn hu hb3'
        go_wp2_with fail
        refine wp_region_noPanic ?_
        refine wp_region_held_drew (S := fun W => W.cell? ⟨g, 0, none⟩ = some (.int .i64 K) ∧ W.cell? ⟨g, 1, none⟩ = some (.slice (some ⟨ge, 0, none⟩) n c) ∧ W.cell? ⟨ge, k * 3 + 2, none⟩ = some (.int .i64 (gn : Int))) (by kernel_rfl) (⟨x0, x1, q2⟩) (fun hHeld => ?_)
        refine tkC 0 (some 18) (Op.move (Operand.tmp 3)) 30 (v := ?_) rfl (by decide +kernel) (by kernel_rfl) ?_ ‹_› ?_
        rotate_left
        ·(intro w hSw; (try dsimp only at hSw); go_simp) <;> with_reducible rfl
        (try simp only [Act.put, List.setIfInBounds_toArray, List.set_cons_zero, List.set_cons_succ])
        refine tkC 1 (some 19) (Op.fieldAddr 29 (Operand.tmp 1) 0) 0 (v := ?_) rfl (by decide +kernel) (by kernel_rfl) ?_ ‹_› ?_
        rotate_left
        ·(intro w hSw; (try dsimp only at hSw); go_simp) <;> with_reducible rfl
        (try simp only [Act.put, List.setIfInBounds_toArray, List.set_cons_zero, List.set_cons_succ])
        refine tkC 2 (some 20) (Op.load 3 (Operand.tmp 19)) 3 (v := ?_) rfl (by decide +kernel) (by kernel_rfl) ?_ ‹_› ?_
        rotate_left
        ·(intro w hSw; (try dsimp only at hSw); go_simp) <;> with_reducible rfl
        (try simp only [Act.put, List.setIfInBounds_toArray, List.set_cons_zero, List.set_cons_succ])
        refine tkC 3 (some 21) (Op.move (Operand.tmp 4)) 3 (v := ?_) rfl (by decide +kernel) (by kernel_rfl) ?_ ‹_› ?_
        rotate_left
        ·(intro w hSw; (try dsimp only at hSw); go_simp) <;> with_reducible rfl
        (try simp only [Act.put, List.setIfInBounds_toArray, List.set_cons_zero, List.set_cons_succ])
        refine tkC 4 (some 22) (Op.fieldAddr 29 (Operand.tmp 1) 1) 0 (v := ?_) rfl (by decide +kernel) (by kernel_rfl) ?_ ‹_› ?_
        rotate_left
        ·(intro w hSw; (try dsimp only at hSw); go_simp) <;> with_reducible rfl
        (try simp only [Act.put, List.setIfInBounds_toArray, List.set_cons_zero, List.set_cons_succ])
        refine tkC 5 (some 23) (Op.load 26 (Operand.tmp 22)) 26 (v := ?_) rfl (by decide +kernel) (by kernel_rfl) ?_ ‹_› ?_
        rotate_left
        ·(intro w hSw; (try dsimp only at hSw); go_simp) <;> with_reducible rfl
        (try simp only [Act.put, List.setIfInBounds_toArray, List.set_cons_zero, List.set_cons_succ])
        refine tkC 6 (some 24) (Op.move (Operand.tmp 4)) 3 (v := ?_) rfl (by decide +kernel) (by kernel_rfl) ?_ ‹_› ?_
        rotate_left
        ·(intro w hSw; (try dsimp only at hSw); go_simp) <;> with_reducible rfl
        (try simp only [Act.put, List.setIfInBounds_toArray, List.set_cons_zero, List.set_cons_succ])
        refine tkC 7 (some 25) (Op.indexAddr 26 (Operand.tmp 23) (Operand.tmp 24)) 0 (v := ?_) rfl (by decide +kernel) (by kernel_rfl) ?_ ‹_› ?_
        rotate_left
        ·(intro w hSw; (try dsimp only at hSw); go_simp) <;> with_reducible rfl
        (try simp only [Act.put, List.setIfInBounds_toArray, List.set_cons_zero, List.set_cons_succ])
        refine tkC 8 (some 26) (Op.fieldAddr 41 (Operand.tmp 25) 2) 0 (v := ?_) rfl (by decide +kernel) (by kernel_rfl) ?_ ‹_› ?_
        rotate_left
        ·(intro w hSw; (try dsimp only at hSw); go_simp) <;> with_reducible rfl
        (try simp only [Act.put, List.setIfInBounds_toArray, List.set_cons_zero, List.set_cons_succ])
        refine tkC 9 (some 27) (Op.load 3 (Operand.tmp 26)) 3 (v := ?_) rfl (by decide +kernel) (by kernel_rfl) ?_ ‹_› ?_
        rotate_left
        ·(intro w hSw; (try dsimp only at hSw); go_simp) <;> with_reducible rfl
        (try simp only [Act.put, List.setIfInBounds_toArray, List.set_cons_zero, List.set_cons_succ])
        refine rdA (rs := [10]) (by decide +kernel) ?_ rfl
        refine rcA (some 28) (Op.call { callee := Callee.value (Operand.func 36), args := #[Operand.tmp 20, Operand.tmp 21, Operand.tmp 27], argTypes := #[3, 3, 3] }) 31 rfl (by kernel_rfl) (fun K hK => ?_) ?_
        ·go_simp
         refine (HCP.out _).mono ?_
         rintro _ _ ⟨rfl, rfl⟩
         go_wp2_with fail
         refine hK.out _ _ ?_ (fun hHeld => ?_)
         · exact ⟨x0, x1, q2⟩
         clear hK K
         (try simp only [Act.put, List.setIfInBounds_toArray, List.set_cons_zero, List.set_cons_succ])
         refine rdA (rs := [11]) (by decide +kernel) ?_ rfl
         refine rcA (some 29) (Op.buildSlice 30 1 #[(0, Operand.tmp 28)]) 30 rfl (by kernel_rfl) (fun K hK => ?_) ?_
         ·go_simp
          refine hK.out _ _ ?_ (fun hHeld => ?_)
          · exact ⟨y0, y1, y2⟩
          clear hK K
          (try simp only [Act.put, List.setIfInBounds_toArray, List.set_cons_zero, List.set_cons_succ])
          refine rdA (rs := [12]) (by decide +kernel) ?_ rfl
          refine rcA (some 30) (Op.call { callee := Callee.builtin Builtin.append, args := #[Operand.tmp 18, Operand.tmp 29], argTypes := #[30, 30] }) 30 rfl (by kernel_rfl) (fun K hK => ?_) ?_
          ·skip
           refine wp_append_lies _ (.tmp 18) (.tmp 29) 30 rfl w.heap.size 31 HU0.out.choose (.int .u64 0) 1 8 Try.underlying30 HU0.out.choose_spec.1 HU0.out.choose_spec.2.1 HU0.out.choose_spec.2.2.1 HU0.out.choose_spec.2.2.2 rfl (by decide) (.slice A2 t2 c2) t2 _ (by simp [Act.eval]) R3.out ⟨wr.heap.size, 0, none⟩ 1 1 [.int .u64 p] (by simp [Act.eval]) rfl NEW.out (hds_one [p]) (by decide) (by unfold maxLen; omega) (by omega) SZ.out _ rfl ?_
           intro g4 c4 w4 hrow hgr hat hlt
           have k4 : Kept ((wr.alloc (.cells #[.int .u64 p] 31)).drew) w4 (rowD A2) := (Kept.refl _ _).grown hgr (fun x e _ => own_D e)
           have R4 := Lib.hid hrow
           have K4 := Lib.hid k4
           have HA4 := Lib.hid hat
           have z0 := k4.cell_some y0 OFF.out.1
           have z1 := k4.cell_some y1 OFF.out.1
           have z2 := k4.cell_some y2 OFF.out.2
           clear hrow hgr hat hlt k4
           refine hK.out _ _ ?_ (fun hHeld => ?_)
           · exact ⟨z0, z1, z2⟩
           clear hK K
           (try simp only [Act.put, List.setIfInBounds_toArray, List.set_cons_zero, List.set_cons_succ])
           refine tkC 13 (some 3) (Op.assign (Operand.tmp 30)) 30 (v := ?_) rfl (by decide +kernel) (by kernel_rfl) ?_ ‹_› ?_
           rotate_left
           ·(intro w hSw; (try dsimp only at hSw); go_simp) <;> with_reducible rfl
           (try simp only [Act.put, List.setIfInBounds_toArray, List.set_cons_zero, List.set_cons_succ])
           refine wpAnyH_done (by kernel_rfl) ?_ _
           refine NoPanic.normal ?_
           clear x0 x1 q1 q2 y0 y1 y2 z0 z1 z2
           go_wp2_with fail
           go_roundw
           case rel => exact ⟨k + 1, t2 + 1, c4, some ⟨g4, 0, none⟩, by omega, by go_num, rfl, by omega, Lib.hid ⟨(HI.out.1.below B3.out).kept K4.out OFF.out.1, (HI.out.2.1.below B3.out).kept K4.out (fun x hx => by rw [rowD_some hx]; exact OFF.out.2) OFFF.out, (below_call HI.out.2.2.1 B3.out).trans (K4.out.below (below_call HI.out.2.2.1 B3.out).size (fun x hx => (row_low R3.out hx).1)), by rw [HS.out, hds_append]; exact R4.out, fun x hx => by
             rw [rowD_some hx]
             rcases HA4.out with e | e
             · exact HI.out.2.2.2.2.1 _ (own_D e)
             · have := SW.out; have h9 : ((wr.alloc (.cells #[.int .u64 p] 31)).drew).heap.size = wr.heap.size + 1 := by simp
               omega, Nat.le_trans (Nat.le_trans SW.out B3.out.size) K4.out.size⟩⟩
           case measure => simp [intOf]; omega
          exact AllReadyH.nil
         exact AllReadyH.nil
        exact AllReadyH.nil
    · have e1 : k = n := by omega
      subst e1
      have ht : S.s.take k = S.s := List.take_of_length_le (by have := HN.out; omega)
      have HT := M.Shut13.mk ht
      clear ht
      go_wp2_with fail
      go_ret
      exact ⟨_, _, _, rfl, by have := HI.out.2.2.2.1; rw [HT.out] at this; exact this, HI.out.2.2.1⟩
end Go.Proofs.Ytbkdlblpoohliaa
