/-
  Proved: for every input the statement WordsJoin returns true, and its arguments read as before. No condition beyond those of the statement.
-/
import Derived.Test.YtnlmbbhbpbbkaaaRows
import Derived.WalkKit
import Derived.ProofKit
import Derived.OpenShut
import Derived.ShutString
import Derived.ChangeOld
import Derived.Below
import Derived.Test.YtnlmbbhbpbbkaaaEx
import Derived.Deep.DeepCutAuto
import Derived.Deep.RegionHeld3
namespace Go.Proofs.Ytnlmbbhbpbbkaaa.wordsJoin
open Go.ChangeShapes Go.WideShapes Go.ChangeAt Go.RowKit
open Go.ChangeMaps (open_string shut_string)
set_option linter.unusedVariables false

theorem own : ownKnob Try.prog.godebug = none := by kernel_rfl
theorem laidOut : laidOutB Try.prog = true := by kernel_rfl

theorem bcell {W w1 : World} (hb : Below W.heap.size W w1) : ∀ b o, b < W.heap.size → w1.cell? ⟨b, o, none⟩ = W.cell? ⟨b, o, none⟩ := fun b o h => hb.cell (p := ⟨b, o, none⟩) h
theorem bytes_one (k : Nat) (hk : k = 1 ∨ k = 2 ∨ k = 4 ∨ k = 8) (v n : Nat) (hv : v < 18446744073709551616) (he : M.enc k v = M.enc k n) (g c : Nat) (W : World) (hc : W.cell? ⟨g, 0, none⟩ = some (.int .u64 (v : Int))) :
    Calls Try.prog 18 #[.int .i64 k, .slice (some ⟨g, 0, none⟩) 1 c] W fun e w' => ∃ A' c', e = .returned (.slice A' k c') ∧ Lies w' A' (u8s (M.enc k n)) ∧ Below W.heap.size W w' := by
  have hl : Lies W (some ⟨g, 0, none⟩) (u64s [v]) := fun _ => ⟨_, rfl, fun j hj => by
    obtain rfl : j = 0 := by simp [u64s] at hj; omega
    exact hc⟩
  refine (bytes_any (k : Int) (some ⟨g, 0, none⟩) [v] c (by simp) (by simpa using hv) W hl).mono ?_
  rintro e w' ⟨A', c', rfl, h1, h2⟩
  rw [btsOf_wide hk, M.bts_one, he] at h1
  refine ⟨A', c', ?_, h1, h2⟩
  rw [btsOf_wide hk, M.bts_one, M.enc_length]
theorem pow_width (kk : Nat) : ∃ k : Nat, wrap64 (2 ^ (kk % 4)) = (k : Int) ∧ (k = 1 ∨ k = 2 ∨ k = 4 ∨ k = 8) := by
  rcases (show kk % 4 = 0 ∨ kk % 4 = 1 ∨ kk % 4 = 2 ∨ kk % 4 = 3 by omega) with h | h | h | h <;> rw [h]
  · exact ⟨1, by simp [wrap64], by omega⟩
  · exact ⟨2, by simp [wrap64], by omega⟩
  · exact ⟨4, by simp [wrap64], by omega⟩
  · exact ⟨8, by simp [wrap64], by omega⟩
theorem le_alloc (w : World) (o : Obj) : w.heap.size ≤ (w.alloc o).heap.size := by simp
/-- A world that a call leaves, held against one from which its world was grown. -/
theorem below_call {a W w' : World} (h : Below a.heap.size a W) (hb : Below W.heap.size W w') : Below a.heap.size a w' := h.trans (hb.mono h.size)
theorem bytes_at (y : Int) (k : Nat) (hy : y = k) (hk : k = 1 ∨ k = 2 ∨ k = 4 ∨ k = 8) (A : Option Addr) (l : List Nat) (c : Nat) (hz : l.length ≤ 1099511627776) (hb : ∀ n ∈ l, n < 18446744073709551616) (w : World) (hl : Lies w A (u64s l)) :
    Calls Try.prog 18 #[.int .i64 y, .slice A l.length c] w fun e w' =>
      e = .returned (.slice (some ⟨w.heap.size, 0, none⟩) (l.length * k) (l.length * k)) ∧ Own w' w.heap.size (M.bts k l) ∧ Below w.heap.size w w' := by
  subst hy
  exact bytes_yes k hk A l c hz hb w hl
theorem wrap_mul (j k : Nat) (hj : j ≤ 100) (hk : k ≤ 8) : wrap64 ((j : Int) * (k : Int)) = ((j * k : Nat) : Int) := by
  have e : (j : Int) * (k : Int) = ((j * k : Nat) : Int) := by simp
  have h := Nat.mul_le_mul hj hk
  rw [e, wrap64]
  generalize j * k = q at *
  omega
theorem get_join (A : Option Addr) (c : Nat) (l : List Nat) (x y : Int) (j k v : Nat) (hj : j < l.length) (ex : x = (j * k : Nat)) (ey : y = k) (ev : l[j] % 256 ^ k = v) (hk : k = 1 ∨ k = 2 ∨ k = 4 ∨ k = 8) (hl : l.length ≤ 100) (w : World) (ho : Lies w A (u8s (M.bts k l))) :
    Calls Try.prog 10 #[.slice A (l.length * k) c, .int .i64 x, .int .i64 y] w fun e w' => e = .returned (.tuple #[.int .u64 (v : Nat), .bool true]) ∧ w = w' := by
  have hz := M.bts_length k l
  have hk8 : k ≤ 8 := by omega
  have h1 := Nat.mul_le_mul hl hk8
  have h2 := Nat.mul_le_mul_right k (Nat.succ_le_of_lt hj)
  rw [Nat.succ_mul] at h2
  subst ex ey ev
  have := get_yes A (M.bts k l) c (j * k) k hk (by omega) (by omega) w ho
  rw [M.seg_bts k l j hj, M.num_enc, hz] at this
  exact this
theorem get_join_no (A : Option Addr) (c : Nat) (l : List Nat) (x y : Int) (k : Nat) (ex : x = (l.length * k : Nat)) (ey : y = k) (hk : k = 1 ∨ k = 2 ∨ k = 4 ∨ k = 8) (hl : l.length ≤ 100) (w : World) :
    Calls Try.prog 10 #[.slice A (l.length * k) c, .int .i64 x, .int .i64 y] w fun e w' => e = .returned (.tuple #[.int .u64 0, .bool false]) ∧ w = w' := by
  have hz := M.bts_length k l
  have hk8 : k ≤ 8 := by omega
  have hk1 : 1 ≤ k := by omega
  have h1 := Nat.mul_le_mul hl hk8
  subst ex ey
  have := get_no A (M.bts k l) c ((l.length * k : Nat) : Int) k (by omega) (by omega) (by rw [hz]; exact M.has_not (by omega)) w
  rw [hz] at this
  exact this

/-! The walk. -/
set_option maxHeartbeats 3200000 in
theorem walk (a0 : Int) (a1 : Option Addr) (len1 cap1 : Nat) (z1 : List Int) (w : World) (w0 : (Lit.int .u8 a0).wf = true) (w1 : IsRow .u64 w a1 len1 cap1 z1) :
    Calls Try.prog 7 #[.int .u8 a0, .slice a1 len1 cap1] w fun e w' => e = .returned (.bool true) ∧ Below w.heap.size w w' := by
  obtain ⟨l, rfl, hl, hb⟩ := row_u64 w1
  obtain ⟨kk, hkk, rfl⟩ := u8_nat w0
  clear w0 w1
  by_cases h100 : l.length ≤ 100
  · obtain ⟨k, hkw, hk⟩ := pow_width kk
    have hk8 : k ≤ 8 := by omega
    have hk1 : 1 ≤ k := by omega
    have HK := Lib.hid hk; clear hk
    have HL := Lib.hid hl; clear hl
    have HB := Lib.hid hb; clear hb
    go_enter Try.func7, Try.ntmps7
    go_wp2_with fail
    refine (awake_any _).mono ?_
    rintro e w1 ⟨rfl, b1⟩
    have hl1 := HL.out.below b1
    have HL1 := Lib.hid hl1; clear hl1
    have B1 := Lib.hid b1; clear b1
    go_wp2_with fail
    refine (bytes_at _ k rfl HK.out _ l _ (by omega) HB.out _ HL1.out).mono ?_
    rintro e w2 ⟨rfl, ho2, b2⟩
    have O2 := Lib.hid ho2; clear ho2
    have B2 := Lib.hid b2; clear b2
    go_wp2_with fail
    go_loopw [8] (fun i wr => ∃ j : Nat, j ≤ l.length ∧ i = .int .i64 j ∧ Below w2.heap.size w2 wr) (fun i _ => l.length - (intOf i).toNat)
    case atStart => exact ⟨0, by omega, rfl, Below.refl _ _⟩
    case round =>
      obtain ⟨j, hj, rfl, hbr⟩ := hrel
      by_cases hlt : j < l.length
      · obtain ⟨v, hv⟩ : ∃ v : Nat, l[j] % 256 ^ k = v := ⟨_, rfl⟩
        have hq64 := HB.out l[j] (List.getElem_mem _)
        have hev : M.enc k v = M.enc k l[j] := by rw [← hv]; exact M.enc_mod k l[j]
        have hv64 : v < 18446744073709551616 := by rw [← hv]; exact Nat.lt_of_le_of_lt (Nat.mod_le _ _) hq64
        have b2r : Below w1.heap.size w1 wr := B2.out.trans (hbr.mono B2.out.size)
        have hlr := HL1.out.below b2r
        obtain ⟨ad, rfl, hc⟩ := hlr (by rw [u64s_length]; omega)
        have hcj := hc j (by rw [u64s_length]; omega)
        have hor := O2.out.below (O2.out.lt (by rw [M.bts_length]; exact Nat.mul_pos (by omega) hk1)) hbr
        simp only [u64s, List.getElem_map] at hcj
        have HV := Lib.hid hv; clear hv hc b2r
        have HE := Lib.hid hev; clear hev
        have OR := Lib.hid hor; clear hor
        have BR := Lib.hid hbr; clear hbr
        have hj100 : j ≤ 100 := by omega
        go_wp2_with fail
        refine (get_join _ _ l _ _ j k v hlt (wrap_mul j k hj100 hk8) rfl HV.out HK.out h100 _ OR.out.lies).mono ?_
        rintro e w' ⟨rfl, rfl⟩
        generalize l[j] = q at *
        clear HV
        have hbd := lt_of_cell hcj
        have hcja := fun o => (World.cell?_alloc_lt wr o (ad.add j) hbd).trans hcj
        have hcjaa := fun o p => (World.cell?_alloc_lt (wr.alloc o) p (ad.add j) (lt_of_cell (hcja o))).trans (hcja o)
        go_upto_region 12 with fail
        go_cut [57] (fun s57 wx => s57 = .bool false ∧ Below wr.heap.size wr wx)
        case first =>
          refine wp_region_noPanic ?_
          refine wp_region_held_drew (S := fun W => W.cell? (ad.add j) = some (.int .u64 (q : Int))) (by kernel_rfl) hcj (fun hHeld => ?_)
          refine wpAnyH_take (i := 0) (oi := ({ dst := some 40, op := Op.move (Operand.tmp 10), type := 4, pos := "law.go:96", after := #[], guard := none } : Oper)) (v := ?_) rfl (by kernel_rfl) (by kernel_rfl) (by kernel_rfl) (fun _ _ _ h => h) (Or.inl ⟨by rfl, ?_⟩) (by assumption) ?_
          rotate_left
          · (intro w hSw; (try dsimp only at hSw); go_simp) <;> with_reducible rfl
          (try simp only [Act.put, List.setIfInBounds_toArray, List.set_cons_zero, List.set_cons_succ])
          refine wpAnyH_take (i := 1) (oi := ({ dst := some 41, op := Op.unOp UnOp.not 4 (Operand.tmp 40), type := 4, pos := "law.go:96", after := #[{ on := 0, ground := Ground.data }], guard := none } : Oper)) (v := ?_) rfl (by kernel_rfl) (by kernel_rfl) (by kernel_rfl) (fun _ _ _ h => h) (Or.inl ⟨by rfl, ?_⟩) (by assumption) ?_
          rotate_left
          · (intro w hSw; (try dsimp only at hSw); go_simp) <;> with_reducible rfl
          (try simp only [Act.put, List.setIfInBounds_toArray, List.set_cons_zero, List.set_cons_succ])
          refine wpAnyH_take (i := 2) (oi := ({ dst := some 42, op := Op.move (Operand.tmp 41), type := 4, pos := "law.go:96", after := #[{ on := 1, ground := Ground.data }], guard := none } : Oper)) (v := ?_) rfl (by kernel_rfl) (by kernel_rfl) (by kernel_rfl) (fun _ _ _ h => h) (Or.inl ⟨by rfl, ?_⟩) (by assumption) ?_
          rotate_left
          · (intro w hSw; (try dsimp only at hSw); go_simp) <;> with_reducible rfl
          (try simp only [Act.put, List.setIfInBounds_toArray, List.set_cons_zero, List.set_cons_succ])
          refine wpAnyH_take (i := 3) (oi := ({ dst := some 43, op := Op.move (Operand.tmp 6), type := 3, pos := "law.go:96", after := #[{ on := 2, ground := Ground.guard }], guard := some (2, false) } : Oper)) (v := ?_) rfl (by kernel_rfl) (by kernel_rfl) (by kernel_rfl) (fun _ _ _ h => h) (Or.inl ⟨by rfl, ?_⟩) (by assumption) ?_
          rotate_left
          · (intro w hSw; (try dsimp only at hSw); go_simp) <;> with_reducible rfl
          (try simp only [Act.put, List.setIfInBounds_toArray, List.set_cons_zero, List.set_cons_succ])
          refine wpAnyH_take (i := 4) (oi := ({ dst := some 44, op := Op.move (Operand.tmp 9), type := 23, pos := "law.go:96", after := #[{ on := 2, ground := Ground.guard }], guard := some (2, false) } : Oper)) (v := ?_) rfl (by kernel_rfl) (by kernel_rfl) (by kernel_rfl) (fun _ _ _ h => h) (Or.inl ⟨by rfl, ?_⟩) (by assumption) ?_
          rotate_left
          · (intro w hSw; (try dsimp only at hSw); go_simp) <;> with_reducible rfl
          (try simp only [Act.put, List.setIfInBounds_toArray, List.set_cons_zero, List.set_cons_succ])
          refine wpAnyH_take (i := 8) (oi := ({ dst := some 48, op := Op.move (Operand.tmp 6), type := 3, pos := "law.go:96", after := #[{ on := 2, ground := Ground.guard }], guard := some (2, false) } : Oper)) (v := ?_) rfl (by kernel_rfl) (by kernel_rfl) (by kernel_rfl) (fun _ _ _ h => h) (Or.inl ⟨by rfl, ?_⟩) (by assumption) ?_
          rotate_left
          · (intro w hSw; (try dsimp only at hSw); go_simp) <;> with_reducible rfl
          (try simp only [Act.put, List.setIfInBounds_toArray, List.set_cons_zero, List.set_cons_succ])
          refine wpAnyH_take (i := 9) (oi := ({ dst := some 49, op := Op.move (Operand.tmp 1), type := 31, pos := "law.go:96", after := #[{ on := 2, ground := Ground.guard }], guard := some (2, false) } : Oper)) (v := ?_) rfl (by kernel_rfl) (by kernel_rfl) (by kernel_rfl) (fun _ _ _ h => h) (Or.inl ⟨by rfl, ?_⟩) (by assumption) ?_
          rotate_left
          · (intro w hSw; (try dsimp only at hSw); go_simp) <;> with_reducible rfl
          (try simp only [Act.put, List.setIfInBounds_toArray, List.set_cons_zero, List.set_cons_succ])
          refine wpAnyH_take (i := 10) (oi := ({ dst := some 50, op := Op.move (Operand.tmp 8), type := 3, pos := "law.go:96", after := #[{ on := 2, ground := Ground.guard }], guard := some (2, false) } : Oper)) (v := ?_) rfl (by kernel_rfl) (by kernel_rfl) (by kernel_rfl) (fun _ _ _ h => h) (Or.inl ⟨by rfl, ?_⟩) (by assumption) ?_
          rotate_left
          · (intro w hSw; (try dsimp only at hSw); go_simp) <;> with_reducible rfl
          (try simp only [Act.put, List.setIfInBounds_toArray, List.set_cons_zero, List.set_cons_succ])
          refine wpAnyH_take (i := 11) (oi := ({ dst := some 51, op := Op.indexAddr 31 (Operand.tmp 49) (Operand.tmp 50), type := 0, pos := "law.go:96", after := #[{ on := 9, ground := Ground.data }, { on := 10, ground := Ground.data }, { on := 2, ground := Ground.guard }], guard := some (2, false) } : Oper)) (v := ?_) rfl (by kernel_rfl) (by kernel_rfl) (by kernel_rfl) (fun _ _ _ h => h) (Or.inl ⟨by rfl, ?_⟩) (by assumption) ?_
          rotate_left
          · (intro w hSw; (try dsimp only at hSw); go_simp) <;> with_reducible rfl
          (try simp only [Act.put, List.setIfInBounds_toArray, List.set_cons_zero, List.set_cons_succ])
          refine wpAnyH_take (i := 12) (oi := ({ dst := some 52, op := Op.load 23 (Operand.tmp 51), type := 23, pos := "law.go:96", after := #[{ on := 11, ground := Ground.data }, { on := 2, ground := Ground.guard }], guard := some (2, false) } : Oper)) (v := ?_) rfl (by kernel_rfl) (by kernel_rfl) (by kernel_rfl) (fun _ _ _ h => h) (Or.inl ⟨by rfl, ?_⟩) (by assumption) ?_
          rotate_left
          · (intro w hSw; (try dsimp only at hSw); go_simp) <;> with_reducible rfl
          (try simp only [Act.put, List.setIfInBounds_toArray, List.set_cons_zero, List.set_cons_succ])
          refine wpAnyH_ready (rs := [5, 13]) (by kernel_rfl) (by simp) ?_
          refine AllReadyH.cons (o := ({ dst := some 45, op := Op.buildSlice 31 1 #[(0, Operand.tmp 44)], type := 31, pos := "law.go:96", after := #[{ on := 4, ground := Ground.data }, { on := 2, ground := Ground.guard }], guard := some (2, false) } : Oper)) rfl (fun K hK => ?_) ?_
          · go_simp
            refine hK.out _ _ ?_ (fun hHeld => ?_)
            · first | exact hcj | exact hcja _ | exact hcjaa _ _ | exact hcj2 | exact (World.cell?_alloc_lt w3 _ (ad.add j) (lt_of_cell hcj2)).trans hcj2 | exact hcj4
            clear hK K
            (try simp only [Act.put, List.setIfInBounds_toArray, List.set_cons_zero, List.set_cons_succ])
            refine wpAnyH_ready (rs := [6, 13]) (by kernel_rfl) (by simp) ?_
            refine AllReadyH.cons (o := ({ dst := some 46, op := Op.call { callee := Callee.value (Operand.func 18), args := #[Operand.tmp 43, Operand.tmp 45], argTypes := #[3, 31] }, type := 22, pos := "law.go:96", after := #[{ on := 3, ground := Ground.data }, { on := 5, ground := Ground.data }, { on := 2, ground := Ground.chain }, { on := 2, ground := Ground.guard }], guard := some (2, false) } : Oper)) rfl (fun K hK => ?_) ?_
            · go_simp
              refine (bytes_one k HK.out v q hv64 HE.out _ _ _ ?_).mono ?_
              · (simp [go_sem]; done)
              rintro e w3 ⟨A3, c3, rfl, hl3, hb3⟩
              have hq3 := conv_at w3 A3 k (M.enc k q) c3 (M.enc_length k q).symm hl3
              have hq3a := fun o => conv_at (w3.alloc o) A3 k (M.enc k q) c3 (M.enc_length k q).symm (hl3.alloc o)
              have hB3 : Below wr.heap.size wr w3 := below_call (by repeat (first | exact Below.refl _ _ | refine Below.drew ?_ | refine Below.alloc ?_ (by simp) _)) hb3
              have hcj2 : w3.cell? (ad.add j) = some (.int .u64 (q : Int)) := (hB3.cell hbd).trans hcj
              have hc3 := bcell hb3
              go_wp2_with fail
              refine hK.out _ _ ?_ (fun hHeld => ?_)
              · first | exact hcj | exact hcja _ | exact hcjaa _ _ | exact hcj2 | exact (World.cell?_alloc_lt w3 _ (ad.add j) (lt_of_cell hcj2)).trans hcj2 | exact hcj4
              clear hK K
              (try simp only [Act.put, List.setIfInBounds_toArray, List.set_cons_zero, List.set_cons_succ])
              refine wpAnyH_ready (rs := [7, 13]) (by kernel_rfl) (by simp) ?_
              refine AllReadyH.cons (o := ({ dst := some 47, op := Op.convert 22 9 (Operand.tmp 46), type := 9, pos := "law.go:96", after := #[{ on := 6, ground := Ground.data }, { on := 2, ground := Ground.guard }], guard := some (2, false) } : Oper)) rfl (fun K hK => ?_) ?_
              · go_simp
                refine hK.out _ _ ?_ (fun hHeld => ?_)
                · first | exact hcj | exact hcja _ | exact hcjaa _ _ | exact hcj2 | exact (World.cell?_alloc_lt w3 _ (ad.add j) (lt_of_cell hcj2)).trans hcj2 | exact hcj4
                clear hK K
                (try simp only [Act.put, List.setIfInBounds_toArray, List.set_cons_zero, List.set_cons_succ])
                refine wpAnyH_ready (rs := [13]) (by kernel_rfl) (by simp) ?_
                refine AllReadyH.cons (o := ({ dst := some 53, op := Op.buildSlice 31 1 #[(0, Operand.tmp 52)], type := 31, pos := "law.go:96", after := #[{ on := 12, ground := Ground.data }, { on := 2, ground := Ground.guard }], guard := some (2, false) } : Oper)) rfl (fun K hK => ?_) ?_
                · go_simp
                  refine hK.out _ _ ?_ (fun hHeld => ?_)
                  · first | exact hcj | exact hcja _ | exact hcjaa _ _ | exact hcj2 | exact (World.cell?_alloc_lt w3 _ (ad.add j) (lt_of_cell hcj2)).trans hcj2 | exact hcj4
                  clear hK K
                  (try simp only [Act.put, List.setIfInBounds_toArray, List.set_cons_zero, List.set_cons_succ])
                  refine wpAnyH_ready (rs := [14]) (by kernel_rfl) (by simp) ?_
                  refine AllReadyH.cons (o := ({ dst := some 54, op := Op.call { callee := Callee.value (Operand.func 18), args := #[Operand.tmp 48, Operand.tmp 53], argTypes := #[3, 31] }, type := 22, pos := "law.go:96", after := #[{ on := 8, ground := Ground.data }, { on := 13, ground := Ground.data }, { on := 6, ground := Ground.chain }, { on := 2, ground := Ground.guard }], guard := some (2, false) } : Oper)) rfl (fun K hK => ?_) ?_
                  · go_simp
                    refine (bytes_one k HK.out q q hq64 rfl _ _ _ ?_).mono ?_
                    · first | (simp [go_sem]; done) | (simp [go_sem, hc3]; done)
                    rintro e w4 ⟨A4, c4, rfl, hl4, hb4⟩
                    have hq4 := conv_at w4 A4 k (M.enc k q) c4 (M.enc_length k q).symm hl4
                    have hl34 : Lies w4 A3 (u8s (M.enc k q)) := (by first | exact hl3.below hb4 | exact (hl3.alloc _).below hb4)
                    have hB4 : Below wr.heap.size wr w4 := below_call (by first | exact hB3 | exact hB3.alloc hB3.size _) hb4
                    have hcj4 : w4.cell? (ad.add j) = some (.int .u64 (q : Int)) := (hB4.cell hbd).trans hcj
                    have hq34 := conv_at w4 A3 k (M.enc k q) c3 (M.enc_length k q).symm hl34
                    go_wp2_with fail
                    refine hK.out _ _ ?_ (fun hHeld => ?_)
                    · first | exact hcj | exact hcja _ | exact hcjaa _ _ | exact hcj2 | exact (World.cell?_alloc_lt w3 _ (ad.add j) (lt_of_cell hcj2)).trans hcj2 | exact hcj4
                    clear hK K
                    (try simp only [Act.put, List.setIfInBounds_toArray, List.set_cons_zero, List.set_cons_succ])
                    refine wpAnyH_ready (rs := [15]) (by kernel_rfl) (by simp) ?_
                    refine AllReadyH.cons (o := ({ dst := some 55, op := Op.convert 22 9 (Operand.tmp 54), type := 9, pos := "law.go:96", after := #[{ on := 14, ground := Ground.data }, { on := 2, ground := Ground.guard }], guard := some (2, false) } : Oper)) rfl (fun K hK => ?_) ?_
                    · go_simp
                      refine hK.out _ _ ?_ (fun hHeld => ?_)
                      · first | exact hcj | exact hcja _ | exact hcjaa _ _ | exact hcj2 | exact (World.cell?_alloc_lt w3 _ (ad.add j) (lt_of_cell hcj2)).trans hcj2 | exact hcj4
                      clear hK K
                      (try simp only [Act.put, List.setIfInBounds_toArray, List.set_cons_zero, List.set_cons_succ])
                      refine wpAnyH_take (i := 16) (oi := ({ dst := some 56, op := Op.binOp BinOp.neq 9 (Operand.tmp 47) (Operand.tmp 55) 9, type := 4, pos := "law.go:96", after := #[{ on := 7, ground := Ground.data }, { on := 15, ground := Ground.data }, { on := 2, ground := Ground.guard }], guard := some (2, false) } : Oper)) (v := ?_) rfl (by kernel_rfl) (by kernel_rfl) (by kernel_rfl) (fun _ _ _ h => h) (Or.inl ⟨by rfl, ?_⟩) (by assumption) ?_
                      rotate_left
                      · (intro w hSw; (try dsimp only at hSw); go_simp) <;> with_reducible rfl
                      (try simp only [Act.put, List.setIfInBounds_toArray, List.set_cons_zero, List.set_cons_succ])
                      refine wpAnyH_take (i := 17) (oi := ({ dst := some 57, op := Op.pick (Operand.tmp 42) (Operand.const (Value.bool true)) (Operand.tmp 56), type := 4, pos := "law.go:96", after := #[{ on := 2, ground := Ground.data }, { on := 16, ground := Ground.data }], guard := none } : Oper)) (v := ?_) rfl (by kernel_rfl) (by kernel_rfl) (by kernel_rfl) (fun _ _ _ h => h) (Or.inl ⟨by rfl, ?_⟩) (by assumption) ?_
                      rotate_left
                      · (intro w hSw; (try dsimp only at hSw); go_simp) <;> with_reducible rfl
                      (try simp only [Act.put, List.setIfInBounds_toArray, List.set_cons_zero, List.set_cons_succ])
                      refine wpAnyH_done (by kernel_rfl) ?_ _
                      refine NoPanic.normal ?_
                      go_wp2_with fail
                      go_meet
                      exact ⟨by simp, hB4⟩
                    exact AllReadyH.nil
                  exact AllReadyH.nil
                exact AllReadyH.nil
              refine AllReadyH.cons (o := ({ dst := some 53, op := Op.buildSlice 31 1 #[(0, Operand.tmp 52)], type := 31, pos := "law.go:96", after := #[{ on := 12, ground := Ground.data }, { on := 2, ground := Ground.guard }], guard := some (2, false) } : Oper)) rfl (fun K hK => ?_) ?_
              · go_simp
                refine hK.out _ _ ?_ (fun hHeld => ?_)
                · first | exact hcj | exact hcja _ | exact hcjaa _ _ | exact hcj2 | exact (World.cell?_alloc_lt w3 _ (ad.add j) (lt_of_cell hcj2)).trans hcj2 | exact hcj4
                clear hK K
                (try simp only [Act.put, List.setIfInBounds_toArray, List.set_cons_zero, List.set_cons_succ])
                refine wpAnyH_ready (rs := [7, 14]) (by kernel_rfl) (by simp) ?_
                refine AllReadyH.cons (o := ({ dst := some 47, op := Op.convert 22 9 (Operand.tmp 46), type := 9, pos := "law.go:96", after := #[{ on := 6, ground := Ground.data }, { on := 2, ground := Ground.guard }], guard := some (2, false) } : Oper)) rfl (fun K hK => ?_) ?_
                · go_simp
                  refine hK.out _ _ ?_ (fun hHeld => ?_)
                  · first | exact hcj | exact hcja _ | exact hcjaa _ _ | exact hcj2 | exact (World.cell?_alloc_lt w3 _ (ad.add j) (lt_of_cell hcj2)).trans hcj2 | exact hcj4
                  clear hK K
                  (try simp only [Act.put, List.setIfInBounds_toArray, List.set_cons_zero, List.set_cons_succ])
                  refine wpAnyH_ready (rs := [14]) (by kernel_rfl) (by simp) ?_
                  refine AllReadyH.cons (o := ({ dst := some 54, op := Op.call { callee := Callee.value (Operand.func 18), args := #[Operand.tmp 48, Operand.tmp 53], argTypes := #[3, 31] }, type := 22, pos := "law.go:96", after := #[{ on := 8, ground := Ground.data }, { on := 13, ground := Ground.data }, { on := 6, ground := Ground.chain }, { on := 2, ground := Ground.guard }], guard := some (2, false) } : Oper)) rfl (fun K hK => ?_) ?_
                  · go_simp
                    refine (bytes_one k HK.out q q hq64 rfl _ _ _ ?_).mono ?_
                    · first | (simp [go_sem]; done) | (simp [go_sem, hc3]; done)
                    rintro e w4 ⟨A4, c4, rfl, hl4, hb4⟩
                    have hq4 := conv_at w4 A4 k (M.enc k q) c4 (M.enc_length k q).symm hl4
                    have hl34 : Lies w4 A3 (u8s (M.enc k q)) := (by first | exact hl3.below hb4 | exact (hl3.alloc _).below hb4)
                    have hB4 : Below wr.heap.size wr w4 := below_call (by first | exact hB3 | exact hB3.alloc hB3.size _) hb4
                    have hcj4 : w4.cell? (ad.add j) = some (.int .u64 (q : Int)) := (hB4.cell hbd).trans hcj
                    have hq34 := conv_at w4 A3 k (M.enc k q) c3 (M.enc_length k q).symm hl34
                    go_wp2_with fail
                    refine hK.out _ _ ?_ (fun hHeld => ?_)
                    · first | exact hcj | exact hcja _ | exact hcjaa _ _ | exact hcj2 | exact (World.cell?_alloc_lt w3 _ (ad.add j) (lt_of_cell hcj2)).trans hcj2 | exact hcj4
                    clear hK K
                    (try simp only [Act.put, List.setIfInBounds_toArray, List.set_cons_zero, List.set_cons_succ])
                    refine wpAnyH_ready (rs := [15]) (by kernel_rfl) (by simp) ?_
                    refine AllReadyH.cons (o := ({ dst := some 55, op := Op.convert 22 9 (Operand.tmp 54), type := 9, pos := "law.go:96", after := #[{ on := 14, ground := Ground.data }, { on := 2, ground := Ground.guard }], guard := some (2, false) } : Oper)) rfl (fun K hK => ?_) ?_
                    · go_simp
                      refine hK.out _ _ ?_ (fun hHeld => ?_)
                      · first | exact hcj | exact hcja _ | exact hcjaa _ _ | exact hcj2 | exact (World.cell?_alloc_lt w3 _ (ad.add j) (lt_of_cell hcj2)).trans hcj2 | exact hcj4
                      clear hK K
                      (try simp only [Act.put, List.setIfInBounds_toArray, List.set_cons_zero, List.set_cons_succ])
                      refine wpAnyH_take (i := 16) (oi := ({ dst := some 56, op := Op.binOp BinOp.neq 9 (Operand.tmp 47) (Operand.tmp 55) 9, type := 4, pos := "law.go:96", after := #[{ on := 7, ground := Ground.data }, { on := 15, ground := Ground.data }, { on := 2, ground := Ground.guard }], guard := some (2, false) } : Oper)) (v := ?_) rfl (by kernel_rfl) (by kernel_rfl) (by kernel_rfl) (fun _ _ _ h => h) (Or.inl ⟨by rfl, ?_⟩) (by assumption) ?_
                      rotate_left
                      · (intro w hSw; (try dsimp only at hSw); go_simp) <;> with_reducible rfl
                      (try simp only [Act.put, List.setIfInBounds_toArray, List.set_cons_zero, List.set_cons_succ])
                      refine wpAnyH_take (i := 17) (oi := ({ dst := some 57, op := Op.pick (Operand.tmp 42) (Operand.const (Value.bool true)) (Operand.tmp 56), type := 4, pos := "law.go:96", after := #[{ on := 2, ground := Ground.data }, { on := 16, ground := Ground.data }], guard := none } : Oper)) (v := ?_) rfl (by kernel_rfl) (by kernel_rfl) (by kernel_rfl) (fun _ _ _ h => h) (Or.inl ⟨by rfl, ?_⟩) (by assumption) ?_
                      rotate_left
                      · (intro w hSw; (try dsimp only at hSw); go_simp) <;> with_reducible rfl
                      (try simp only [Act.put, List.setIfInBounds_toArray, List.set_cons_zero, List.set_cons_succ])
                      refine wpAnyH_done (by kernel_rfl) ?_ _
                      refine NoPanic.normal ?_
                      go_wp2_with fail
                      go_meet
                      exact ⟨by simp, hB4⟩
                    exact AllReadyH.nil
                  exact AllReadyH.nil
                refine AllReadyH.cons (o := ({ dst := some 54, op := Op.call { callee := Callee.value (Operand.func 18), args := #[Operand.tmp 48, Operand.tmp 53], argTypes := #[3, 31] }, type := 22, pos := "law.go:96", after := #[{ on := 8, ground := Ground.data }, { on := 13, ground := Ground.data }, { on := 6, ground := Ground.chain }, { on := 2, ground := Ground.guard }], guard := some (2, false) } : Oper)) rfl (fun K hK => ?_) ?_
                · go_simp
                  refine (bytes_one k HK.out q q hq64 rfl _ _ _ ?_).mono ?_
                  · first | (simp [go_sem]; done) | (simp [go_sem, hc3]; done)
                  rintro e w4 ⟨A4, c4, rfl, hl4, hb4⟩
                  have hq4 := conv_at w4 A4 k (M.enc k q) c4 (M.enc_length k q).symm hl4
                  have hl34 : Lies w4 A3 (u8s (M.enc k q)) := (by first | exact hl3.below hb4 | exact (hl3.alloc _).below hb4)
                  have hB4 : Below wr.heap.size wr w4 := below_call (by first | exact hB3 | exact hB3.alloc hB3.size _) hb4
                  have hcj4 : w4.cell? (ad.add j) = some (.int .u64 (q : Int)) := (hB4.cell hbd).trans hcj
                  have hq34 := conv_at w4 A3 k (M.enc k q) c3 (M.enc_length k q).symm hl34
                  go_wp2_with fail
                  refine hK.out _ _ ?_ (fun hHeld => ?_)
                  · first | exact hcj | exact hcja _ | exact hcjaa _ _ | exact hcj2 | exact (World.cell?_alloc_lt w3 _ (ad.add j) (lt_of_cell hcj2)).trans hcj2 | exact hcj4
                  clear hK K
                  (try simp only [Act.put, List.setIfInBounds_toArray, List.set_cons_zero, List.set_cons_succ])
                  refine wpAnyH_ready (rs := [7, 15]) (by kernel_rfl) (by simp) ?_
                  refine AllReadyH.cons (o := ({ dst := some 47, op := Op.convert 22 9 (Operand.tmp 46), type := 9, pos := "law.go:96", after := #[{ on := 6, ground := Ground.data }, { on := 2, ground := Ground.guard }], guard := some (2, false) } : Oper)) rfl (fun K hK => ?_) ?_
                  · go_simp
                    refine hK.out _ _ ?_ (fun hHeld => ?_)
                    · first | exact hcj | exact hcja _ | exact hcjaa _ _ | exact hcj2 | exact (World.cell?_alloc_lt w3 _ (ad.add j) (lt_of_cell hcj2)).trans hcj2 | exact hcj4
                    clear hK K
                    (try simp only [Act.put, List.setIfInBounds_toArray, List.set_cons_zero, List.set_cons_succ])
                    refine wpAnyH_ready (rs := [15]) (by kernel_rfl) (by simp) ?_
                    refine AllReadyH.cons (o := ({ dst := some 55, op := Op.convert 22 9 (Operand.tmp 54), type := 9, pos := "law.go:96", after := #[{ on := 14, ground := Ground.data }, { on := 2, ground := Ground.guard }], guard := some (2, false) } : Oper)) rfl (fun K hK => ?_) ?_
                    · go_simp
                      refine hK.out _ _ ?_ (fun hHeld => ?_)
                      · first | exact hcj | exact hcja _ | exact hcjaa _ _ | exact hcj2 | exact (World.cell?_alloc_lt w3 _ (ad.add j) (lt_of_cell hcj2)).trans hcj2 | exact hcj4
                      clear hK K
                      (try simp only [Act.put, List.setIfInBounds_toArray, List.set_cons_zero, List.set_cons_succ])
                      refine wpAnyH_take (i := 16) (oi := ({ dst := some 56, op := Op.binOp BinOp.neq 9 (Operand.tmp 47) (Operand.tmp 55) 9, type := 4, pos := "law.go:96", after := #[{ on := 7, ground := Ground.data }, { on := 15, ground := Ground.data }, { on := 2, ground := Ground.guard }], guard := some (2, false) } : Oper)) (v := ?_) rfl (by kernel_rfl) (by kernel_rfl) (by kernel_rfl) (fun _ _ _ h => h) (Or.inl ⟨by rfl, ?_⟩) (by assumption) ?_
                      rotate_left
                      · (intro w hSw; (try dsimp only at hSw); go_simp) <;> with_reducible rfl
                      (try simp only [Act.put, List.setIfInBounds_toArray, List.set_cons_zero, List.set_cons_succ])
                      refine wpAnyH_take (i := 17) (oi := ({ dst := some 57, op := Op.pick (Operand.tmp 42) (Operand.const (Value.bool true)) (Operand.tmp 56), type := 4, pos := "law.go:96", after := #[{ on := 2, ground := Ground.data }, { on := 16, ground := Ground.data }], guard := none } : Oper)) (v := ?_) rfl (by kernel_rfl) (by kernel_rfl) (by kernel_rfl) (fun _ _ _ h => h) (Or.inl ⟨by rfl, ?_⟩) (by assumption) ?_
                      rotate_left
                      · (intro w hSw; (try dsimp only at hSw); go_simp) <;> with_reducible rfl
                      (try simp only [Act.put, List.setIfInBounds_toArray, List.set_cons_zero, List.set_cons_succ])
                      refine wpAnyH_done (by kernel_rfl) ?_ _
                      refine NoPanic.normal ?_
                      go_wp2_with fail
                      go_meet
                      exact ⟨by simp, hB4⟩
                    exact AllReadyH.nil
                  refine AllReadyH.cons (o := ({ dst := some 55, op := Op.convert 22 9 (Operand.tmp 54), type := 9, pos := "law.go:96", after := #[{ on := 14, ground := Ground.data }, { on := 2, ground := Ground.guard }], guard := some (2, false) } : Oper)) rfl (fun K hK => ?_) ?_
                  · go_simp
                    refine hK.out _ _ ?_ (fun hHeld => ?_)
                    · first | exact hcj | exact hcja _ | exact hcjaa _ _ | exact hcj2 | exact (World.cell?_alloc_lt w3 _ (ad.add j) (lt_of_cell hcj2)).trans hcj2 | exact hcj4
                    clear hK K
                    (try simp only [Act.put, List.setIfInBounds_toArray, List.set_cons_zero, List.set_cons_succ])
                    refine wpAnyH_ready (rs := [7]) (by kernel_rfl) (by simp) ?_
                    refine AllReadyH.cons (o := ({ dst := some 47, op := Op.convert 22 9 (Operand.tmp 46), type := 9, pos := "law.go:96", after := #[{ on := 6, ground := Ground.data }, { on := 2, ground := Ground.guard }], guard := some (2, false) } : Oper)) rfl (fun K hK => ?_) ?_
                    · go_simp
                      refine hK.out _ _ ?_ (fun hHeld => ?_)
                      · first | exact hcj | exact hcja _ | exact hcjaa _ _ | exact hcj2 | exact (World.cell?_alloc_lt w3 _ (ad.add j) (lt_of_cell hcj2)).trans hcj2 | exact hcj4
                      clear hK K
                      (try simp only [Act.put, List.setIfInBounds_toArray, List.set_cons_zero, List.set_cons_succ])
                      refine wpAnyH_take (i := 16) (oi := ({ dst := some 56, op := Op.binOp BinOp.neq 9 (Operand.tmp 47) (Operand.tmp 55) 9, type := 4, pos := "law.go:96", after := #[{ on := 7, ground := Ground.data }, { on := 15, ground := Ground.data }, { on := 2, ground := Ground.guard }], guard := some (2, false) } : Oper)) (v := ?_) rfl (by kernel_rfl) (by kernel_rfl) (by kernel_rfl) (fun _ _ _ h => h) (Or.inl ⟨by rfl, ?_⟩) (by assumption) ?_
                      rotate_left
                      · (intro w hSw; (try dsimp only at hSw); go_simp) <;> with_reducible rfl
                      (try simp only [Act.put, List.setIfInBounds_toArray, List.set_cons_zero, List.set_cons_succ])
                      refine wpAnyH_take (i := 17) (oi := ({ dst := some 57, op := Op.pick (Operand.tmp 42) (Operand.const (Value.bool true)) (Operand.tmp 56), type := 4, pos := "law.go:96", after := #[{ on := 2, ground := Ground.data }, { on := 16, ground := Ground.data }], guard := none } : Oper)) (v := ?_) rfl (by kernel_rfl) (by kernel_rfl) (by kernel_rfl) (fun _ _ _ h => h) (Or.inl ⟨by rfl, ?_⟩) (by assumption) ?_
                      rotate_left
                      · (intro w hSw; (try dsimp only at hSw); go_simp) <;> with_reducible rfl
                      (try simp only [Act.put, List.setIfInBounds_toArray, List.set_cons_zero, List.set_cons_succ])
                      refine wpAnyH_done (by kernel_rfl) ?_ _
                      refine NoPanic.normal ?_
                      go_wp2_with fail
                      go_meet
                      exact ⟨by simp, hB4⟩
                    exact AllReadyH.nil
                  exact AllReadyH.nil
                exact AllReadyH.nil
              exact AllReadyH.nil
            refine AllReadyH.cons (o := ({ dst := some 53, op := Op.buildSlice 31 1 #[(0, Operand.tmp 52)], type := 31, pos := "law.go:96", after := #[{ on := 12, ground := Ground.data }, { on := 2, ground := Ground.guard }], guard := some (2, false) } : Oper)) rfl (fun K hK => ?_) ?_
            · go_simp
              refine hK.out _ _ ?_ (fun hHeld => ?_)
              · first | exact hcj | exact hcja _ | exact hcjaa _ _ | exact hcj2 | exact (World.cell?_alloc_lt w3 _ (ad.add j) (lt_of_cell hcj2)).trans hcj2 | exact hcj4
              clear hK K
              (try simp only [Act.put, List.setIfInBounds_toArray, List.set_cons_zero, List.set_cons_succ])
              refine wpAnyH_ready (rs := [6]) (by kernel_rfl) (by simp) ?_
              refine AllReadyH.cons (o := ({ dst := some 46, op := Op.call { callee := Callee.value (Operand.func 18), args := #[Operand.tmp 43, Operand.tmp 45], argTypes := #[3, 31] }, type := 22, pos := "law.go:96", after := #[{ on := 3, ground := Ground.data }, { on := 5, ground := Ground.data }, { on := 2, ground := Ground.chain }, { on := 2, ground := Ground.guard }], guard := some (2, false) } : Oper)) rfl (fun K hK => ?_) ?_
              · go_simp
                refine (bytes_one k HK.out v q hv64 HE.out _ _ _ ?_).mono ?_
                · (simp [go_sem]; done)
                rintro e w3 ⟨A3, c3, rfl, hl3, hb3⟩
                have hq3 := conv_at w3 A3 k (M.enc k q) c3 (M.enc_length k q).symm hl3
                have hq3a := fun o => conv_at (w3.alloc o) A3 k (M.enc k q) c3 (M.enc_length k q).symm (hl3.alloc o)
                have hB3 : Below wr.heap.size wr w3 := below_call (by repeat (first | exact Below.refl _ _ | refine Below.drew ?_ | refine Below.alloc ?_ (by simp) _)) hb3
                have hcj2 : w3.cell? (ad.add j) = some (.int .u64 (q : Int)) := (hB3.cell hbd).trans hcj
                have hc3 := bcell hb3
                go_wp2_with fail
                refine hK.out _ _ ?_ (fun hHeld => ?_)
                · first | exact hcj | exact hcja _ | exact hcjaa _ _ | exact hcj2 | exact (World.cell?_alloc_lt w3 _ (ad.add j) (lt_of_cell hcj2)).trans hcj2 | exact hcj4
                clear hK K
                (try simp only [Act.put, List.setIfInBounds_toArray, List.set_cons_zero, List.set_cons_succ])
                refine wpAnyH_ready (rs := [7, 14]) (by kernel_rfl) (by simp) ?_
                refine AllReadyH.cons (o := ({ dst := some 47, op := Op.convert 22 9 (Operand.tmp 46), type := 9, pos := "law.go:96", after := #[{ on := 6, ground := Ground.data }, { on := 2, ground := Ground.guard }], guard := some (2, false) } : Oper)) rfl (fun K hK => ?_) ?_
                · go_simp
                  refine hK.out _ _ ?_ (fun hHeld => ?_)
                  · first | exact hcj | exact hcja _ | exact hcjaa _ _ | exact hcj2 | exact (World.cell?_alloc_lt w3 _ (ad.add j) (lt_of_cell hcj2)).trans hcj2 | exact hcj4
                  clear hK K
                  (try simp only [Act.put, List.setIfInBounds_toArray, List.set_cons_zero, List.set_cons_succ])
                  refine wpAnyH_ready (rs := [14]) (by kernel_rfl) (by simp) ?_
                  refine AllReadyH.cons (o := ({ dst := some 54, op := Op.call { callee := Callee.value (Operand.func 18), args := #[Operand.tmp 48, Operand.tmp 53], argTypes := #[3, 31] }, type := 22, pos := "law.go:96", after := #[{ on := 8, ground := Ground.data }, { on := 13, ground := Ground.data }, { on := 6, ground := Ground.chain }, { on := 2, ground := Ground.guard }], guard := some (2, false) } : Oper)) rfl (fun K hK => ?_) ?_
                  · go_simp
                    refine (bytes_one k HK.out q q hq64 rfl _ _ _ ?_).mono ?_
                    · first | (simp [go_sem]; done) | (simp [go_sem, hc3]; done)
                    rintro e w4 ⟨A4, c4, rfl, hl4, hb4⟩
                    have hq4 := conv_at w4 A4 k (M.enc k q) c4 (M.enc_length k q).symm hl4
                    have hl34 : Lies w4 A3 (u8s (M.enc k q)) := (by first | exact hl3.below hb4 | exact (hl3.alloc _).below hb4)
                    have hB4 : Below wr.heap.size wr w4 := below_call (by first | exact hB3 | exact hB3.alloc hB3.size _) hb4
                    have hcj4 : w4.cell? (ad.add j) = some (.int .u64 (q : Int)) := (hB4.cell hbd).trans hcj
                    have hq34 := conv_at w4 A3 k (M.enc k q) c3 (M.enc_length k q).symm hl34
                    go_wp2_with fail
                    refine hK.out _ _ ?_ (fun hHeld => ?_)
                    · first | exact hcj | exact hcja _ | exact hcjaa _ _ | exact hcj2 | exact (World.cell?_alloc_lt w3 _ (ad.add j) (lt_of_cell hcj2)).trans hcj2 | exact hcj4
                    clear hK K
                    (try simp only [Act.put, List.setIfInBounds_toArray, List.set_cons_zero, List.set_cons_succ])
                    refine wpAnyH_ready (rs := [15]) (by kernel_rfl) (by simp) ?_
                    refine AllReadyH.cons (o := ({ dst := some 55, op := Op.convert 22 9 (Operand.tmp 54), type := 9, pos := "law.go:96", after := #[{ on := 14, ground := Ground.data }, { on := 2, ground := Ground.guard }], guard := some (2, false) } : Oper)) rfl (fun K hK => ?_) ?_
                    · go_simp
                      refine hK.out _ _ ?_ (fun hHeld => ?_)
                      · first | exact hcj | exact hcja _ | exact hcjaa _ _ | exact hcj2 | exact (World.cell?_alloc_lt w3 _ (ad.add j) (lt_of_cell hcj2)).trans hcj2 | exact hcj4
                      clear hK K
                      (try simp only [Act.put, List.setIfInBounds_toArray, List.set_cons_zero, List.set_cons_succ])
                      refine wpAnyH_take (i := 16) (oi := ({ dst := some 56, op := Op.binOp BinOp.neq 9 (Operand.tmp 47) (Operand.tmp 55) 9, type := 4, pos := "law.go:96", after := #[{ on := 7, ground := Ground.data }, { on := 15, ground := Ground.data }, { on := 2, ground := Ground.guard }], guard := some (2, false) } : Oper)) (v := ?_) rfl (by kernel_rfl) (by kernel_rfl) (by kernel_rfl) (fun _ _ _ h => h) (Or.inl ⟨by rfl, ?_⟩) (by assumption) ?_
                      rotate_left
                      · (intro w hSw; (try dsimp only at hSw); go_simp) <;> with_reducible rfl
                      (try simp only [Act.put, List.setIfInBounds_toArray, List.set_cons_zero, List.set_cons_succ])
                      refine wpAnyH_take (i := 17) (oi := ({ dst := some 57, op := Op.pick (Operand.tmp 42) (Operand.const (Value.bool true)) (Operand.tmp 56), type := 4, pos := "law.go:96", after := #[{ on := 2, ground := Ground.data }, { on := 16, ground := Ground.data }], guard := none } : Oper)) (v := ?_) rfl (by kernel_rfl) (by kernel_rfl) (by kernel_rfl) (fun _ _ _ h => h) (Or.inl ⟨by rfl, ?_⟩) (by assumption) ?_
                      rotate_left
                      · (intro w hSw; (try dsimp only at hSw); go_simp) <;> with_reducible rfl
                      (try simp only [Act.put, List.setIfInBounds_toArray, List.set_cons_zero, List.set_cons_succ])
                      refine wpAnyH_done (by kernel_rfl) ?_ _
                      refine NoPanic.normal ?_
                      go_wp2_with fail
                      go_meet
                      exact ⟨by simp, hB4⟩
                    exact AllReadyH.nil
                  exact AllReadyH.nil
                refine AllReadyH.cons (o := ({ dst := some 54, op := Op.call { callee := Callee.value (Operand.func 18), args := #[Operand.tmp 48, Operand.tmp 53], argTypes := #[3, 31] }, type := 22, pos := "law.go:96", after := #[{ on := 8, ground := Ground.data }, { on := 13, ground := Ground.data }, { on := 6, ground := Ground.chain }, { on := 2, ground := Ground.guard }], guard := some (2, false) } : Oper)) rfl (fun K hK => ?_) ?_
                · go_simp
                  refine (bytes_one k HK.out q q hq64 rfl _ _ _ ?_).mono ?_
                  · first | (simp [go_sem]; done) | (simp [go_sem, hc3]; done)
                  rintro e w4 ⟨A4, c4, rfl, hl4, hb4⟩
                  have hq4 := conv_at w4 A4 k (M.enc k q) c4 (M.enc_length k q).symm hl4
                  have hl34 : Lies w4 A3 (u8s (M.enc k q)) := (by first | exact hl3.below hb4 | exact (hl3.alloc _).below hb4)
                  have hB4 : Below wr.heap.size wr w4 := below_call (by first | exact hB3 | exact hB3.alloc hB3.size _) hb4
                  have hcj4 : w4.cell? (ad.add j) = some (.int .u64 (q : Int)) := (hB4.cell hbd).trans hcj
                  have hq34 := conv_at w4 A3 k (M.enc k q) c3 (M.enc_length k q).symm hl34
                  go_wp2_with fail
                  refine hK.out _ _ ?_ (fun hHeld => ?_)
                  · first | exact hcj | exact hcja _ | exact hcjaa _ _ | exact hcj2 | exact (World.cell?_alloc_lt w3 _ (ad.add j) (lt_of_cell hcj2)).trans hcj2 | exact hcj4
                  clear hK K
                  (try simp only [Act.put, List.setIfInBounds_toArray, List.set_cons_zero, List.set_cons_succ])
                  refine wpAnyH_ready (rs := [7, 15]) (by kernel_rfl) (by simp) ?_
                  refine AllReadyH.cons (o := ({ dst := some 47, op := Op.convert 22 9 (Operand.tmp 46), type := 9, pos := "law.go:96", after := #[{ on := 6, ground := Ground.data }, { on := 2, ground := Ground.guard }], guard := some (2, false) } : Oper)) rfl (fun K hK => ?_) ?_
                  · go_simp
                    refine hK.out _ _ ?_ (fun hHeld => ?_)
                    · first | exact hcj | exact hcja _ | exact hcjaa _ _ | exact hcj2 | exact (World.cell?_alloc_lt w3 _ (ad.add j) (lt_of_cell hcj2)).trans hcj2 | exact hcj4
                    clear hK K
                    (try simp only [Act.put, List.setIfInBounds_toArray, List.set_cons_zero, List.set_cons_succ])
                    refine wpAnyH_ready (rs := [15]) (by kernel_rfl) (by simp) ?_
                    refine AllReadyH.cons (o := ({ dst := some 55, op := Op.convert 22 9 (Operand.tmp 54), type := 9, pos := "law.go:96", after := #[{ on := 14, ground := Ground.data }, { on := 2, ground := Ground.guard }], guard := some (2, false) } : Oper)) rfl (fun K hK => ?_) ?_
                    · go_simp
                      refine hK.out _ _ ?_ (fun hHeld => ?_)
                      · first | exact hcj | exact hcja _ | exact hcjaa _ _ | exact hcj2 | exact (World.cell?_alloc_lt w3 _ (ad.add j) (lt_of_cell hcj2)).trans hcj2 | exact hcj4
                      clear hK K
                      (try simp only [Act.put, List.setIfInBounds_toArray, List.set_cons_zero, List.set_cons_succ])
                      refine wpAnyH_take (i := 16) (oi := ({ dst := some 56, op := Op.binOp BinOp.neq 9 (Operand.tmp 47) (Operand.tmp 55) 9, type := 4, pos := "law.go:96", after := #[{ on := 7, ground := Ground.data }, { on := 15, ground := Ground.data }, { on := 2, ground := Ground.guard }], guard := some (2, false) } : Oper)) (v := ?_) rfl (by kernel_rfl) (by kernel_rfl) (by kernel_rfl) (fun _ _ _ h => h) (Or.inl ⟨by rfl, ?_⟩) (by assumption) ?_
                      rotate_left
                      · (intro w hSw; (try dsimp only at hSw); go_simp) <;> with_reducible rfl
                      (try simp only [Act.put, List.setIfInBounds_toArray, List.set_cons_zero, List.set_cons_succ])
                      refine wpAnyH_take (i := 17) (oi := ({ dst := some 57, op := Op.pick (Operand.tmp 42) (Operand.const (Value.bool true)) (Operand.tmp 56), type := 4, pos := "law.go:96", after := #[{ on := 2, ground := Ground.data }, { on := 16, ground := Ground.data }], guard := none } : Oper)) (v := ?_) rfl (by kernel_rfl) (by kernel_rfl) (by kernel_rfl) (fun _ _ _ h => h) (Or.inl ⟨by rfl, ?_⟩) (by assumption) ?_
                      rotate_left
                      · (intro w hSw; (try dsimp only at hSw); go_simp) <;> with_reducible rfl
                      (try simp only [Act.put, List.setIfInBounds_toArray, List.set_cons_zero, List.set_cons_succ])
                      refine wpAnyH_done (by kernel_rfl) ?_ _
                      refine NoPanic.normal ?_
                      go_wp2_with fail
                      go_meet
                      exact ⟨by simp, hB4⟩
                    exact AllReadyH.nil
                  refine AllReadyH.cons (o := ({ dst := some 55, op := Op.convert 22 9 (Operand.tmp 54), type := 9, pos := "law.go:96", after := #[{ on := 14, ground := Ground.data }, { on := 2, ground := Ground.guard }], guard := some (2, false) } : Oper)) rfl (fun K hK => ?_) ?_
                  · go_simp
                    refine hK.out _ _ ?_ (fun hHeld => ?_)
                    · first | exact hcj | exact hcja _ | exact hcjaa _ _ | exact hcj2 | exact (World.cell?_alloc_lt w3 _ (ad.add j) (lt_of_cell hcj2)).trans hcj2 | exact hcj4
                    clear hK K
                    (try simp only [Act.put, List.setIfInBounds_toArray, List.set_cons_zero, List.set_cons_succ])
                    refine wpAnyH_ready (rs := [7]) (by kernel_rfl) (by simp) ?_
                    refine AllReadyH.cons (o := ({ dst := some 47, op := Op.convert 22 9 (Operand.tmp 46), type := 9, pos := "law.go:96", after := #[{ on := 6, ground := Ground.data }, { on := 2, ground := Ground.guard }], guard := some (2, false) } : Oper)) rfl (fun K hK => ?_) ?_
                    · go_simp
                      refine hK.out _ _ ?_ (fun hHeld => ?_)
                      · first | exact hcj | exact hcja _ | exact hcjaa _ _ | exact hcj2 | exact (World.cell?_alloc_lt w3 _ (ad.add j) (lt_of_cell hcj2)).trans hcj2 | exact hcj4
                      clear hK K
                      (try simp only [Act.put, List.setIfInBounds_toArray, List.set_cons_zero, List.set_cons_succ])
                      refine wpAnyH_take (i := 16) (oi := ({ dst := some 56, op := Op.binOp BinOp.neq 9 (Operand.tmp 47) (Operand.tmp 55) 9, type := 4, pos := "law.go:96", after := #[{ on := 7, ground := Ground.data }, { on := 15, ground := Ground.data }, { on := 2, ground := Ground.guard }], guard := some (2, false) } : Oper)) (v := ?_) rfl (by kernel_rfl) (by kernel_rfl) (by kernel_rfl) (fun _ _ _ h => h) (Or.inl ⟨by rfl, ?_⟩) (by assumption) ?_
                      rotate_left
                      · (intro w hSw; (try dsimp only at hSw); go_simp) <;> with_reducible rfl
                      (try simp only [Act.put, List.setIfInBounds_toArray, List.set_cons_zero, List.set_cons_succ])
                      refine wpAnyH_take (i := 17) (oi := ({ dst := some 57, op := Op.pick (Operand.tmp 42) (Operand.const (Value.bool true)) (Operand.tmp 56), type := 4, pos := "law.go:96", after := #[{ on := 2, ground := Ground.data }, { on := 16, ground := Ground.data }], guard := none } : Oper)) (v := ?_) rfl (by kernel_rfl) (by kernel_rfl) (by kernel_rfl) (fun _ _ _ h => h) (Or.inl ⟨by rfl, ?_⟩) (by assumption) ?_
                      rotate_left
                      · (intro w hSw; (try dsimp only at hSw); go_simp) <;> with_reducible rfl
                      (try simp only [Act.put, List.setIfInBounds_toArray, List.set_cons_zero, List.set_cons_succ])
                      refine wpAnyH_done (by kernel_rfl) ?_ _
                      refine NoPanic.normal ?_
                      go_wp2_with fail
                      go_meet
                      exact ⟨by simp, hB4⟩
                    exact AllReadyH.nil
                  exact AllReadyH.nil
                exact AllReadyH.nil
              exact AllReadyH.nil
            exact AllReadyH.nil
          refine AllReadyH.cons (o := ({ dst := some 53, op := Op.buildSlice 31 1 #[(0, Operand.tmp 52)], type := 31, pos := "law.go:96", after := #[{ on := 12, ground := Ground.data }, { on := 2, ground := Ground.guard }], guard := some (2, false) } : Oper)) rfl (fun K hK => ?_) ?_
          · go_simp
            refine hK.out _ _ ?_ (fun hHeld => ?_)
            · first | exact hcj | exact hcja _ | exact hcjaa _ _ | exact hcj2 | exact (World.cell?_alloc_lt w3 _ (ad.add j) (lt_of_cell hcj2)).trans hcj2 | exact hcj4
            clear hK K
            (try simp only [Act.put, List.setIfInBounds_toArray, List.set_cons_zero, List.set_cons_succ])
            refine wpAnyH_ready (rs := [5]) (by kernel_rfl) (by simp) ?_
            refine AllReadyH.cons (o := ({ dst := some 45, op := Op.buildSlice 31 1 #[(0, Operand.tmp 44)], type := 31, pos := "law.go:96", after := #[{ on := 4, ground := Ground.data }, { on := 2, ground := Ground.guard }], guard := some (2, false) } : Oper)) rfl (fun K hK => ?_) ?_
            · go_simp
              refine hK.out _ _ ?_ (fun hHeld => ?_)
              · first | exact hcj | exact hcja _ | exact hcjaa _ _ | exact hcj2 | exact (World.cell?_alloc_lt w3 _ (ad.add j) (lt_of_cell hcj2)).trans hcj2 | exact hcj4
              clear hK K
              (try simp only [Act.put, List.setIfInBounds_toArray, List.set_cons_zero, List.set_cons_succ])
              refine wpAnyH_ready (rs := [6]) (by kernel_rfl) (by simp) ?_
              refine AllReadyH.cons (o := ({ dst := some 46, op := Op.call { callee := Callee.value (Operand.func 18), args := #[Operand.tmp 43, Operand.tmp 45], argTypes := #[3, 31] }, type := 22, pos := "law.go:96", after := #[{ on := 3, ground := Ground.data }, { on := 5, ground := Ground.data }, { on := 2, ground := Ground.chain }, { on := 2, ground := Ground.guard }], guard := some (2, false) } : Oper)) rfl (fun K hK => ?_) ?_
              · go_simp
                refine (bytes_one k HK.out v q hv64 HE.out _ _ _ ?_).mono ?_
                · (simp [go_sem]; done)
                rintro e w3 ⟨A3, c3, rfl, hl3, hb3⟩
                have hq3 := conv_at w3 A3 k (M.enc k q) c3 (M.enc_length k q).symm hl3
                have hq3a := fun o => conv_at (w3.alloc o) A3 k (M.enc k q) c3 (M.enc_length k q).symm (hl3.alloc o)
                have hB3 : Below wr.heap.size wr w3 := below_call (by repeat (first | exact Below.refl _ _ | refine Below.drew ?_ | refine Below.alloc ?_ (by simp) _)) hb3
                have hcj2 : w3.cell? (ad.add j) = some (.int .u64 (q : Int)) := (hB3.cell hbd).trans hcj
                have hc3 := bcell hb3
                go_wp2_with fail
                refine hK.out _ _ ?_ (fun hHeld => ?_)
                · first | exact hcj | exact hcja _ | exact hcjaa _ _ | exact hcj2 | exact (World.cell?_alloc_lt w3 _ (ad.add j) (lt_of_cell hcj2)).trans hcj2 | exact hcj4
                clear hK K
                (try simp only [Act.put, List.setIfInBounds_toArray, List.set_cons_zero, List.set_cons_succ])
                refine wpAnyH_ready (rs := [7, 14]) (by kernel_rfl) (by simp) ?_
                refine AllReadyH.cons (o := ({ dst := some 47, op := Op.convert 22 9 (Operand.tmp 46), type := 9, pos := "law.go:96", after := #[{ on := 6, ground := Ground.data }, { on := 2, ground := Ground.guard }], guard := some (2, false) } : Oper)) rfl (fun K hK => ?_) ?_
                · go_simp
                  refine hK.out _ _ ?_ (fun hHeld => ?_)
                  · first | exact hcj | exact hcja _ | exact hcjaa _ _ | exact hcj2 | exact (World.cell?_alloc_lt w3 _ (ad.add j) (lt_of_cell hcj2)).trans hcj2 | exact hcj4
                  clear hK K
                  (try simp only [Act.put, List.setIfInBounds_toArray, List.set_cons_zero, List.set_cons_succ])
                  refine wpAnyH_ready (rs := [14]) (by kernel_rfl) (by simp) ?_
                  refine AllReadyH.cons (o := ({ dst := some 54, op := Op.call { callee := Callee.value (Operand.func 18), args := #[Operand.tmp 48, Operand.tmp 53], argTypes := #[3, 31] }, type := 22, pos := "law.go:96", after := #[{ on := 8, ground := Ground.data }, { on := 13, ground := Ground.data }, { on := 6, ground := Ground.chain }, { on := 2, ground := Ground.guard }], guard := some (2, false) } : Oper)) rfl (fun K hK => ?_) ?_
                  · go_simp
                    refine (bytes_one k HK.out q q hq64 rfl _ _ _ ?_).mono ?_
                    · first | (simp [go_sem]; done) | (simp [go_sem, hc3]; done)
                    rintro e w4 ⟨A4, c4, rfl, hl4, hb4⟩
                    have hq4 := conv_at w4 A4 k (M.enc k q) c4 (M.enc_length k q).symm hl4
                    have hl34 : Lies w4 A3 (u8s (M.enc k q)) := (by first | exact hl3.below hb4 | exact (hl3.alloc _).below hb4)
                    have hB4 : Below wr.heap.size wr w4 := below_call (by first | exact hB3 | exact hB3.alloc hB3.size _) hb4
                    have hcj4 : w4.cell? (ad.add j) = some (.int .u64 (q : Int)) := (hB4.cell hbd).trans hcj
                    have hq34 := conv_at w4 A3 k (M.enc k q) c3 (M.enc_length k q).symm hl34
                    go_wp2_with fail
                    refine hK.out _ _ ?_ (fun hHeld => ?_)
                    · first | exact hcj | exact hcja _ | exact hcjaa _ _ | exact hcj2 | exact (World.cell?_alloc_lt w3 _ (ad.add j) (lt_of_cell hcj2)).trans hcj2 | exact hcj4
                    clear hK K
                    (try simp only [Act.put, List.setIfInBounds_toArray, List.set_cons_zero, List.set_cons_succ])
                    refine wpAnyH_ready (rs := [15]) (by kernel_rfl) (by simp) ?_
                    refine AllReadyH.cons (o := ({ dst := some 55, op := Op.convert 22 9 (Operand.tmp 54), type := 9, pos := "law.go:96", after := #[{ on := 14, ground := Ground.data }, { on := 2, ground := Ground.guard }], guard := some (2, false) } : Oper)) rfl (fun K hK => ?_) ?_
                    · go_simp
                      refine hK.out _ _ ?_ (fun hHeld => ?_)
                      · first | exact hcj | exact hcja _ | exact hcjaa _ _ | exact hcj2 | exact (World.cell?_alloc_lt w3 _ (ad.add j) (lt_of_cell hcj2)).trans hcj2 | exact hcj4
                      clear hK K
                      (try simp only [Act.put, List.setIfInBounds_toArray, List.set_cons_zero, List.set_cons_succ])
                      refine wpAnyH_take (i := 16) (oi := ({ dst := some 56, op := Op.binOp BinOp.neq 9 (Operand.tmp 47) (Operand.tmp 55) 9, type := 4, pos := "law.go:96", after := #[{ on := 7, ground := Ground.data }, { on := 15, ground := Ground.data }, { on := 2, ground := Ground.guard }], guard := some (2, false) } : Oper)) (v := ?_) rfl (by kernel_rfl) (by kernel_rfl) (by kernel_rfl) (fun _ _ _ h => h) (Or.inl ⟨by rfl, ?_⟩) (by assumption) ?_
                      rotate_left
                      · (intro w hSw; (try dsimp only at hSw); go_simp) <;> with_reducible rfl
                      (try simp only [Act.put, List.setIfInBounds_toArray, List.set_cons_zero, List.set_cons_succ])
                      refine wpAnyH_take (i := 17) (oi := ({ dst := some 57, op := Op.pick (Operand.tmp 42) (Operand.const (Value.bool true)) (Operand.tmp 56), type := 4, pos := "law.go:96", after := #[{ on := 2, ground := Ground.data }, { on := 16, ground := Ground.data }], guard := none } : Oper)) (v := ?_) rfl (by kernel_rfl) (by kernel_rfl) (by kernel_rfl) (fun _ _ _ h => h) (Or.inl ⟨by rfl, ?_⟩) (by assumption) ?_
                      rotate_left
                      · (intro w hSw; (try dsimp only at hSw); go_simp) <;> with_reducible rfl
                      (try simp only [Act.put, List.setIfInBounds_toArray, List.set_cons_zero, List.set_cons_succ])
                      refine wpAnyH_done (by kernel_rfl) ?_ _
                      refine NoPanic.normal ?_
                      go_wp2_with fail
                      go_meet
                      exact ⟨by simp, hB4⟩
                    exact AllReadyH.nil
                  exact AllReadyH.nil
                refine AllReadyH.cons (o := ({ dst := some 54, op := Op.call { callee := Callee.value (Operand.func 18), args := #[Operand.tmp 48, Operand.tmp 53], argTypes := #[3, 31] }, type := 22, pos := "law.go:96", after := #[{ on := 8, ground := Ground.data }, { on := 13, ground := Ground.data }, { on := 6, ground := Ground.chain }, { on := 2, ground := Ground.guard }], guard := some (2, false) } : Oper)) rfl (fun K hK => ?_) ?_
                · go_simp
                  refine (bytes_one k HK.out q q hq64 rfl _ _ _ ?_).mono ?_
                  · first | (simp [go_sem]; done) | (simp [go_sem, hc3]; done)
                  rintro e w4 ⟨A4, c4, rfl, hl4, hb4⟩
                  have hq4 := conv_at w4 A4 k (M.enc k q) c4 (M.enc_length k q).symm hl4
                  have hl34 : Lies w4 A3 (u8s (M.enc k q)) := (by first | exact hl3.below hb4 | exact (hl3.alloc _).below hb4)
                  have hB4 : Below wr.heap.size wr w4 := below_call (by first | exact hB3 | exact hB3.alloc hB3.size _) hb4
                  have hcj4 : w4.cell? (ad.add j) = some (.int .u64 (q : Int)) := (hB4.cell hbd).trans hcj
                  have hq34 := conv_at w4 A3 k (M.enc k q) c3 (M.enc_length k q).symm hl34
                  go_wp2_with fail
                  refine hK.out _ _ ?_ (fun hHeld => ?_)
                  · first | exact hcj | exact hcja _ | exact hcjaa _ _ | exact hcj2 | exact (World.cell?_alloc_lt w3 _ (ad.add j) (lt_of_cell hcj2)).trans hcj2 | exact hcj4
                  clear hK K
                  (try simp only [Act.put, List.setIfInBounds_toArray, List.set_cons_zero, List.set_cons_succ])
                  refine wpAnyH_ready (rs := [7, 15]) (by kernel_rfl) (by simp) ?_
                  refine AllReadyH.cons (o := ({ dst := some 47, op := Op.convert 22 9 (Operand.tmp 46), type := 9, pos := "law.go:96", after := #[{ on := 6, ground := Ground.data }, { on := 2, ground := Ground.guard }], guard := some (2, false) } : Oper)) rfl (fun K hK => ?_) ?_
                  · go_simp
                    refine hK.out _ _ ?_ (fun hHeld => ?_)
                    · first | exact hcj | exact hcja _ | exact hcjaa _ _ | exact hcj2 | exact (World.cell?_alloc_lt w3 _ (ad.add j) (lt_of_cell hcj2)).trans hcj2 | exact hcj4
                    clear hK K
                    (try simp only [Act.put, List.setIfInBounds_toArray, List.set_cons_zero, List.set_cons_succ])
                    refine wpAnyH_ready (rs := [15]) (by kernel_rfl) (by simp) ?_
                    refine AllReadyH.cons (o := ({ dst := some 55, op := Op.convert 22 9 (Operand.tmp 54), type := 9, pos := "law.go:96", after := #[{ on := 14, ground := Ground.data }, { on := 2, ground := Ground.guard }], guard := some (2, false) } : Oper)) rfl (fun K hK => ?_) ?_
                    · go_simp
                      refine hK.out _ _ ?_ (fun hHeld => ?_)
                      · first | exact hcj | exact hcja _ | exact hcjaa _ _ | exact hcj2 | exact (World.cell?_alloc_lt w3 _ (ad.add j) (lt_of_cell hcj2)).trans hcj2 | exact hcj4
                      clear hK K
                      (try simp only [Act.put, List.setIfInBounds_toArray, List.set_cons_zero, List.set_cons_succ])
                      refine wpAnyH_take (i := 16) (oi := ({ dst := some 56, op := Op.binOp BinOp.neq 9 (Operand.tmp 47) (Operand.tmp 55) 9, type := 4, pos := "law.go:96", after := #[{ on := 7, ground := Ground.data }, { on := 15, ground := Ground.data }, { on := 2, ground := Ground.guard }], guard := some (2, false) } : Oper)) (v := ?_) rfl (by kernel_rfl) (by kernel_rfl) (by kernel_rfl) (fun _ _ _ h => h) (Or.inl ⟨by rfl, ?_⟩) (by assumption) ?_
                      rotate_left
                      · (intro w hSw; (try dsimp only at hSw); go_simp) <;> with_reducible rfl
                      (try simp only [Act.put, List.setIfInBounds_toArray, List.set_cons_zero, List.set_cons_succ])
                      refine wpAnyH_take (i := 17) (oi := ({ dst := some 57, op := Op.pick (Operand.tmp 42) (Operand.const (Value.bool true)) (Operand.tmp 56), type := 4, pos := "law.go:96", after := #[{ on := 2, ground := Ground.data }, { on := 16, ground := Ground.data }], guard := none } : Oper)) (v := ?_) rfl (by kernel_rfl) (by kernel_rfl) (by kernel_rfl) (fun _ _ _ h => h) (Or.inl ⟨by rfl, ?_⟩) (by assumption) ?_
                      rotate_left
                      · (intro w hSw; (try dsimp only at hSw); go_simp) <;> with_reducible rfl
                      (try simp only [Act.put, List.setIfInBounds_toArray, List.set_cons_zero, List.set_cons_succ])
                      refine wpAnyH_done (by kernel_rfl) ?_ _
                      refine NoPanic.normal ?_
                      go_wp2_with fail
                      go_meet
                      exact ⟨by simp, hB4⟩
                    exact AllReadyH.nil
                  refine AllReadyH.cons (o := ({ dst := some 55, op := Op.convert 22 9 (Operand.tmp 54), type := 9, pos := "law.go:96", after := #[{ on := 14, ground := Ground.data }, { on := 2, ground := Ground.guard }], guard := some (2, false) } : Oper)) rfl (fun K hK => ?_) ?_
                  · go_simp
                    refine hK.out _ _ ?_ (fun hHeld => ?_)
                    · first | exact hcj | exact hcja _ | exact hcjaa _ _ | exact hcj2 | exact (World.cell?_alloc_lt w3 _ (ad.add j) (lt_of_cell hcj2)).trans hcj2 | exact hcj4
                    clear hK K
                    (try simp only [Act.put, List.setIfInBounds_toArray, List.set_cons_zero, List.set_cons_succ])
                    refine wpAnyH_ready (rs := [7]) (by kernel_rfl) (by simp) ?_
                    refine AllReadyH.cons (o := ({ dst := some 47, op := Op.convert 22 9 (Operand.tmp 46), type := 9, pos := "law.go:96", after := #[{ on := 6, ground := Ground.data }, { on := 2, ground := Ground.guard }], guard := some (2, false) } : Oper)) rfl (fun K hK => ?_) ?_
                    · go_simp
                      refine hK.out _ _ ?_ (fun hHeld => ?_)
                      · first | exact hcj | exact hcja _ | exact hcjaa _ _ | exact hcj2 | exact (World.cell?_alloc_lt w3 _ (ad.add j) (lt_of_cell hcj2)).trans hcj2 | exact hcj4
                      clear hK K
                      (try simp only [Act.put, List.setIfInBounds_toArray, List.set_cons_zero, List.set_cons_succ])
                      refine wpAnyH_take (i := 16) (oi := ({ dst := some 56, op := Op.binOp BinOp.neq 9 (Operand.tmp 47) (Operand.tmp 55) 9, type := 4, pos := "law.go:96", after := #[{ on := 7, ground := Ground.data }, { on := 15, ground := Ground.data }, { on := 2, ground := Ground.guard }], guard := some (2, false) } : Oper)) (v := ?_) rfl (by kernel_rfl) (by kernel_rfl) (by kernel_rfl) (fun _ _ _ h => h) (Or.inl ⟨by rfl, ?_⟩) (by assumption) ?_
                      rotate_left
                      · (intro w hSw; (try dsimp only at hSw); go_simp) <;> with_reducible rfl
                      (try simp only [Act.put, List.setIfInBounds_toArray, List.set_cons_zero, List.set_cons_succ])
                      refine wpAnyH_take (i := 17) (oi := ({ dst := some 57, op := Op.pick (Operand.tmp 42) (Operand.const (Value.bool true)) (Operand.tmp 56), type := 4, pos := "law.go:96", after := #[{ on := 2, ground := Ground.data }, { on := 16, ground := Ground.data }], guard := none } : Oper)) (v := ?_) rfl (by kernel_rfl) (by kernel_rfl) (by kernel_rfl) (fun _ _ _ h => h) (Or.inl ⟨by rfl, ?_⟩) (by assumption) ?_
                      rotate_left
                      · (intro w hSw; (try dsimp only at hSw); go_simp) <;> with_reducible rfl
                      (try simp only [Act.put, List.setIfInBounds_toArray, List.set_cons_zero, List.set_cons_succ])
                      refine wpAnyH_done (by kernel_rfl) ?_ _
                      refine NoPanic.normal ?_
                      go_wp2_with fail
                      go_meet
                      exact ⟨by simp, hB4⟩
                    exact AllReadyH.nil
                  exact AllReadyH.nil
                exact AllReadyH.nil
              exact AllReadyH.nil
            exact AllReadyH.nil
          exact AllReadyH.nil
        case rest =>
          obtain ⟨rfl, hB⟩ := hcut
          have H3 := Lib.hid (BR.out.trans (hB.mono BR.out.size)); clear hB
          go_wp2
          go_roundw
          case rel => exact ⟨j + 1, by omega, by go_num, H3.out⟩
          case measure => simp [intOf]; omega
      · have hje : (j : Int) = l.length := by omega
        have BR := Lib.hid hbr; clear hbr
        clear hje
        go_wp2_with fail
        refine (get_join_no _ _ l _ _ k (wrap_mul l.length k h100 hk8) rfl HK.out h100 _).mono ?_
        rintro e w' ⟨rfl, rfl⟩
        have hfin : ((l.length : Int) * (k : Int) == wrap64 ((k : Int) * (l.length : Int))) = true := by rw [Int.mul_comm (k : Int), wrap_mul l.length k h100 hk8]; simp
        go_wp2
        go_ret
        exact ⟨rfl, (B1.out.trans (B2.out.mono B1.out.size)).trans (BR.out.mono (Nat.le_trans B1.out.size B2.out.size))⟩
  · have hd : decide ((l.length : Int) > 100) = true := by simp; omega
    go_enter Try.func7, Try.ntmps7
    go_wp2_with fail
    refine (awake_any _).mono ?_
    rintro e w1 ⟨rfl, b1⟩
    go_wp2
    go_ret
    exact ⟨rfl, b1⟩

/-! The row's step. -/
set_option maxRecDepth 100000 in
theorem lifted (os : Os) (started : os.Started) (H : Type) (enc : TypeId × Value → H) :
    ReturnsInHanded {} Try.checked os 7 .any (Rows.wordsJoinSpec.pre6 enc Try.prog Try.f7 Rows.wordsJoinRow.domain false) (Rows.wordsJoinSpec.post enc Try.prog Try.f7 false true false false) := by
  refine returnsInHanded_of_change (C := Try.checked) own started (by kernel_rfl) Try.func7
    (ChangeSpec.witness6 (enc := enc) (C := Try.checked) false ⟨#[], #[.int .u8 0, .slice none 0 0], []⟩ 8 (by kernel_rfl) (by kernel_rfl) (by kernel_rfl) (by kernel_rfl)) ?_
  intro W base args ds gs before hval0 hW hcnd _
  have hval : ∀ (j : Nat) t v, Try.f7.params[j]? = some t → args[j]? = some v → Value.okWide Try.prog W .any base t v := hval0
  have hW' := hW
  obtain ⟨p, q, hA0, hV, rfl, hfz, hnd⟩ := hW
  have hA : DataW.TrodAll enc Try.prog W 0 (fun _ => true) true Try.f7.params.toList args.toList ds p := hA0
  rw [Try.params7] at hA hval
  obtain ⟨v0, vs0, d0, ds0, p0, q0, hargs, rfl, rfl, h0, r0⟩ := trodAll_cons hA
  obtain ⟨v1, vs1, d1, ds1, p1, q1, rfl, rfl, rfl, h1, r1⟩ := trodAll_cons r0
  obtain ⟨rfl, rfl, rfl⟩ := trodAll_nil r1
  obtain rfl : args = #[v0, v1] := by cases args; simp_all
  obtain ⟨rfl, rfl⟩ := trodVars_none hV
  obtain ⟨a0, rfl, rfl, rfl, w0⟩ := open_int Try.underlying5 (hval 0 5 v0 rfl rfl) h0
  obtain ⟨a1, len1, cap1, rfl⟩ := okWide_slice Try.underlying31 (hval 1 31 v1 rfl rfl)
  have k1 := h1
  have lt1 : ∀ x ∈ p1, x.block < W.heap.size := by obtain ⟨m, hm⟩ := k1; exact DataW.trod_lt m _ _ _ hm
  obtain ⟨z1, w1⟩ : ∃ zs, IsRow .u64 W a1 len1 cap1 zs := by
    obtain ⟨fuel, hf⟩ := h1
    rcases open_ints Try.underlying31 Try.underlying23 (by kernel_rfl) hf with ⟨hcs, _⟩ | ⟨x, l, c, zs, hcs, _, hl, hm, hz, _, hcell, hwz⟩
    · simp [Value.cells] at hcs
      obtain ⟨rfl, rfl, rfl⟩ := hcs
      exact ⟨[], .inl ⟨rfl, rfl, rfl, rfl⟩⟩
    · simp [Value.cells] at hcs
      obtain ⟨rfl, rfl, rfl⟩ := hcs
      exact ⟨zs, .inr ⟨_, rfl, hl, hm, by simpa using hz, hcell, hwz⟩⟩
  clear hA0 hval0
  refine (walk a0 a1 len1 cap1 z1 W w0 w1).mono fun e W' ⟨he, bel⟩ => ?_
  subst he
  exact ⟨_, rfl, _, _, _, [], _, [], hW', trodAll_mk1 (shut_bool Try.underlying4 _), (trodAll_cons_mk (shut_int Try.underlying5 w0) (trodAll_cons_mk (Below.trod laidOut (by kernel_rfl) (of_decide_eq_true (by kernel_rfl)) k1 bel lt1) trodAll_mk0)), rfl, bel.frame _, fun h => by cases h⟩

theorem over : Rows.wordsJoinRow.holds Try.pinned (OpenSpec.ofChange Rows.wordsJoinSpec) :=
  OpenClaim.holds_of_wide 7 Try.f7 rfl rfl rfl rfl rfl rfl rfl ⟨rfl, rfl, rfl, rfl, rfl⟩ rfl rfl rfl rfl rfl (by kernel_rfl) Try.func7 (by kernel_rfl)
    (of_decide_eq_true (by kernel_rfl)) (by unfold Func.isWrapper; first | (rw [if_pos (by decide +kernel)]; kernel_rfl) | (rw [if_neg (by decide +kernel)]; exact ⟨rfl, rfl⟩))
    (fun os started H enc _ => lifted os started H enc)

/-- The statement. -/
theorem proved : Rows.WordsJoinSaid := over
#print axioms proved
end Go.Proofs.Ytnlmbbhbpbbkaaa.wordsJoin
