/-
  PagerunAll: when all that was taken is given back, in whatever order, there is one run of all pages again, and all of them can be taken at once; for every input the law returns true, and the arguments read behind the call as they read before. No condition.
-/
import Derived.Test.YtloiomfbmabfbaaRows
import Derived.WalkKit
import Derived.ProofKit
import Derived.OpenShut
import Derived.ShutString
import Derived.ChangeOld
import Derived.Below
import Derived.Test.YtloiomfbmabfbaaGa6
namespace Go.Proofs.Ytloiomfbmabfbaa.pagerunAll
open Go.ChangeShapes Go.WideShapes Go.ChangeAt Go.RowKit
set_option linter.unusedVariables false

theorem own : ownKnob Try.prog.godebug = none := by kernel_rfl

theorem tm_of {y r m : Nat} (h : r = y % m) : (y : Int).tmod (m : Int) = (r : Int) ∧ (y : Int) % (m : Int) = (r : Int) := by
  have e : (y : Int) % (m : Int) = (r : Int) := by rw [h]; exact (Int.natCast_emod y m).symm
  exact ⟨by rw [Int.tmod_eq_emod_of_nonneg (by omega)]; exact e, e⟩
theorem wu_of {x y : Int} (h : x = y) (h1 : 0 ≤ x) (h2 : x < 256) : IntKind.u8.wrap x = y := by rw [IntKind.wrap_u8]; omega
theorem imp_of {p : Prop} (h : p) : True → p := fun _ => h

/-! The walk. -/
set_option maxRecDepth 20000 in
set_option maxHeartbeats 32000000 in
theorem walk (a0 : Int) (a1 : Option Addr) (len1 cap1 : Nat) (z1 : List Int) (a2 : Int) (w : World) (w0 : (Lit.int .u8 a0).wf = true) (w1 : IsRow .u8 w a1 len1 cap1 z1) (w2 : (Lit.int .u8 a2).wf = true) :
    Calls Try.prog 5 #[.int .u8 a0, .slice a1 len1 cap1, .int .u8 a2] w fun e w' => e = .returned (.bool true) ∧ Below w.heap.size w w' := by
  obtain ⟨n0, hn0, rfl⟩ := u8_nat w0
  obtain ⟨tn, htn, rfl⟩ := u8_nat w2
  obtain ⟨xs, hxs, hlies⟩ := row_u8 w1
  have HX := Lib.hid (And.intro hxs hlies)
  clear w0 w1 w2 hxs hlies
  obtain ⟨i0, hi, hi0, hi1, hi2⟩ := info36
  have HI := Lib.hid (And.intro hi (And.intro hi0 (And.intro hi1 hi2)))
  clear hi hi0 hi1 hi2
  obtain ⟨P, hPe⟩ : ∃ P : Int, P = min (max (n0 : Int) 1) 1048576 := ⟨_, rfl⟩
  have HPE := Lib.hid hPe
  clear hPe
  go_enter Try.func5, Try.ntmps5
  go_wp2_with fail
  refine (awake_any _).mono ?_
  rintro e w1 ⟨rfl, b1⟩
  have B1 := Lib.hid b1
  clear b1
  by_cases h30 : 30 < len1
  · have d1 : decide ((30 : Int) < (len1 : Int)) = true := by simp; omega
    go_wp2_with fail
    go_ret
    exact ⟨rfl, B1.out⟩
  have d1 : decide ((30 : Int) < (len1 : Int)) = false := by simp; omega
  by_cases h0 : len1 = 0
  · subst h0
    go_wp2_with fail
    go_ret
    exact ⟨rfl, B1.out⟩
  have hz0 : ¬ ((len1 : Int) = 0) := by omega
  have d2 : ((len1 : Int) == 0) = false := beq_false_of_ne hz0
  go_wp2_with fail
  refine (s_new B1.out (n0 : Int) P HPE.out).mono ?_
  rintro e w2 ⟨g, rfl, h2, _, _⟩
  have HG0 := Lib.hid (show Gt w w2 g w2.heap.size P [⟨0, P⟩] 0 0 none 0 0 [] from ⟨rfl, Nat.le_refl _, .inl ⟨rfl, rfl, rfl⟩, h2, Part.new P, Nat.le_refl _, h2.has.lt, h2.bel.size, fun _ gg e => by simp [Value.ownBlock] at e⟩)
  clear h2
  obtain ⟨ad, rfl, hcx⟩ := HX.out.2 (by rw [u8s_length, ← HX.out.1]; omega)
  have HCX := Lib.hid (show ∀ j (h : j < xs.length), w.cell? (ad.add j) = some (.int .u8 ((xs.getD j 0).toNat : Int)) from fun j hj => by
    have := hcx j (by rw [u8s_length]; exact hj)
    rw [this]
    simp [u8s, List.getD, List.getElem?_eq_getElem hj])
  clear hcx
  go_wp2_with fail
  clear d1 d2
  obtain ⟨B, hB⟩ : ∃ B, B = w2.heap.size := ⟨_, rfl⟩
  rw [← hB] at HG0
  clear hB
  go_loopw [9, 10] (fun v9 v10 wr => ∃ (k t c : Nat) (A : Option Addr) (G l : List M.R) (T : Int), k ≤ len1 ∧ v10 = .int .i64 (k : Int) ∧ v9 = .slice A t c ∧ Gt w wr g B P l T k A t c G) (fun v9 v10 _ => len1 - (intOf v10).toNat)
  case atStart => exact ⟨0, 0, 0, none, [], _, _, by omega, rfl, rfl, HG0.out⟩
  case round =>
    obtain ⟨k, t, c, A, G, l, T, hk, rfl, rfl, hg⟩ := hrel
    have HG := Lib.hid hg
    clear hg
    by_cases hlt : k < len1
    · have hjl : k < xs.length := by have := HX.out.1; omega
      have hcell := HCX.out k hjl
      obtain ⟨y, hy⟩ : ∃ y : Nat, y = (xs.getD k 0).toNat := ⟨_, rfl⟩
      have hy256 : y < 256 := by rw [hy]; exact (xs.getD k 0).toNat_lt
      rw [← hy] at hcell
      obtain ⟨r, hr⟩ : ∃ r : Nat, r = y % 9 := ⟨_, rfl⟩
      have hr9 : r < 9 := by omega
      have HR1 := Lib.hid (show (y : Int).tmod 9 = (r : Int) ∧ (y : Int) % 9 = (r : Int) from tm_of (m := 9) hr)
      have HU8 := Lib.hid (wu_of (x := (r : Int)) rfl (by omega) (by omega))
      have c0 := (HG.out.std.bel.cell (lt_of_cell hcell)).trans hcell
      have htk : t ≤ 30 := by have := HG.out.few; omega
      have hsB := HG.out.size
      clear hcell hy hr hjl
      have hr1 := HR1.out.1
      have hr2 := HR1.out.2
      have hu8 := HU8.out
      go_wp2_with fail
      clear hr1 hr2 hu8
      refine (s_take2 HG.out.std (by omega) ((r : Int) + 1)).mono ?_
      rintro e w4 ⟨rfl, h4, g4, a4⟩
      rcases Bool.eq_false_or_eq_true (takeB l ((r : Int) + 1)) with hb | hb
      · have e1 : tkE l ((r : Int) + 1) = 0 := by rw [tkE, if_neg (by omega), if_pos hb]
        have e2 : tkL l ((r : Int) + 1) = takeL l ((r : Int) + 1) := by rw [tkL, if_pos hb]
        have hlne : l ≠ [] := fun e => by
          obtain ⟨kk, hkk, _⟩ := taken hb
          rw [e] at hkk
          simp at hkk
        have hpt := HG.out.part.take HG.out.std.fit.ok hb
        rw [e2] at h4
        rw [e1]
        obtain ⟨L1, hL1⟩ : ∃ L1, L1 = takeL l ((r : Int) + 1) := ⟨_, rfl⟩
        obtain ⟨T1, hT1⟩ : ∃ T1, T1 = tkT l ((r : Int) + 1) T := ⟨_, rfl⟩
        obtain ⟨tp, htp⟩ : ∃ tp, tp = takeP l ((r : Int) + 1) := ⟨_, rfl⟩
        rw [← hL1, ← hT1] at h4
        rw [← hL1, ← htp] at hpt
        rw [← htp]
        have haf := HG.out.after h4 g4 a4 (fun _ => hlne)
        have OWN := Lib.hid (mine_owns haf.1 HG.out.len (.cells #[.int .i64 tp, .int .i64 ((r : Int) + 1)] 51))
        have NEW := Lib.hid (new_cells w4 tp ((r : Int) + 1))
        have HB4 := Lib.hid haf.2.1
        have NXT := Lib.hid (fun (g1 c1 : Nat) (w6 : World) hrow hgr hat => HG.out.next (w6 := w6) (g1 := g1) (c1 := c1) (o := .cells #[.int .i64 tp, .int .i64 ((r : Int) + 1)] 51) h4 g4 a4 (fun _ => hlne) hpt hrow hgr hat)
        clear e1 e2 hb hL1 hT1 htp h4 g4 a4 haf hpt hlne
        go_wp2_with (at_builtin; refine wpList_append_lies _ rfl _ _ 26 rfl B 51 i0 (.agg #[.int .i64 0, .int .i64 0]) 2 16 Try.underlying26 HI.out.1 HI.out.2.1 HI.out.2.2.1 HI.out.2.2.2 rfl (by decide) (.slice A t c) t (rc G) rfl OWN.out ⟨w4.heap.size, 0, none⟩ 1 1 (rc [⟨tp, (r : Int) + 1⟩]) rfl rfl NEW.out (rc_one _) (by omega) (by unfold maxLen; omega) (by omega) (by have := HB4.out; simp; omega) _ rfl ?_; intro g1 c1 w6 hrow hgr hat hlt6; (have HN := Lib.hid (NXT.out _ _ _ hrow hgr hat)); clear hrow hgr hat hlt6)
        go_roundw
        case rel => exact ⟨k + 1, t + 1, c1, _, _, L1, T1, by omega, by go_num, rfl, HN.out⟩
        case measure => simp [intOf]; omega
      · have e2 : tkT l ((r : Int) + 1) T = T := by rw [tkT, hb]; rfl
        have e3 : tkL l ((r : Int) + 1) = l := by rw [tkL, hb]; rfl
        have e1 : tkE l ((r : Int) + 1) = 4 := by rw [tkE, if_neg (by omega), hb]; rfl
        rw [e2, e3] at h4
        rw [e1]
        have HN := Lib.hid (HG.out.skip h4 g4 a4)
        clear e1 e2 e3 hb h4 g4 a4
        go_wp2_with fail
        go_roundw
        case rel => exact ⟨k + 1, t, c, A, G, l, T, by omega, by go_num, rfl, HN.out⟩
        case measure => simp [intOf]; omega
    · have hk30 : k ≤ 30 := by omega
      have HB0 := Lib.hid (HG.out.back hk30)
      go_wp2_with fail
      clear hk hlt hk30
      go_loopw [9] (fun v9 wr => ∃ (t c k : Nat) (A : Option Addr) (G l : List M.R) (T : Int), v9 = .slice A t c ∧ Gb w wr g P l T k A t c G) (fun v9 _ => slLen v9)
      case atStart => exact ⟨t, c, k, A, G, l, T, rfl, HB0.out⟩
      case round =>
        clear HB0 HG
        obtain ⟨t, c, k, A, G, l, T, rfl, hb⟩ := hrel
        have HB := Lib.hid hb
        clear hb
        by_cases ht0 : 0 < t
        · obtain ⟨bl, o, rfl, hc⟩ := HB.out.runs (by rw [← HB.out.len]; exact ht0)
          obtain ⟨j, hj⟩ : ∃ j, j = tn % t := ⟨_, rfl⟩
          have hjt : j < t := by rw [hj]; exact Nat.mod_lt _ ht0
          have hjG : j < G.length := by rw [← HB.out.len]; exact hjt
          have HJ := Lib.hid (tm_of hj)
          have hpg := HB.out.part.give HB.out.std.fit.ok j hjG
          have hin := HB.out.part.inn _ (List.getElem_mem hjG)
          have e0 := (hc j hjG).1
          have e1 := (hc j hjG).2
          obtain ⟨p, hpe⟩ : ∃ p, p = G[j].p := ⟨_, rfl⟩
          obtain ⟨n, hne⟩ : ∃ n, n = G[j].n := ⟨_, rfl⟩
          rw [← hpe, ← hne] at hpg hin
          rw [← hpe] at e0
          rw [← hne] at e1
          obtain ⟨L1, hL1⟩ : ∃ L1, L1 = giveL l P p n := ⟨_, rfl⟩
          obtain ⟨T1, hT1⟩ : ∃ T1, T1 = gvT l P p n T := ⟨_, rfl⟩
          rw [← hL1] at hpg
          have GE := Lib.hid (show gvE l P p n = 0 ∧ gvL l P p n = L1 from ⟨by rw [gvE, if_pos hpg.1], by rw [gvL, if_pos hpg.1, hL1]⟩)
          have PT := Lib.hid hpg.2
          have hp : -9223372036854775808 ≤ p := by omega
          have HKK := Lib.hid (show ∀ W, (Std w W g P L1 (gvT l P p n T) (k + 1) ∧ Runs W (some ⟨bl, o, none⟩) G) → W.cell? ⟨bl, o + j * 2, none⟩ = some (.int .i64 p) ∧ W.cell? ⟨bl, o + j * 2 + 1, none⟩ = some (.int .i64 n) from fun W hW => by
            obtain ⟨bl', o', e, hc'⟩ := hW.2 (by omega)
            cases e
            rw [hpe, hne]
            exact hc' j hjG)
          have ht0' : ¬ ((t : Int) = 0) := by omega
          have ht0b : decide ((0 : Int) < (t : Int)) = true := by simp; omega
          rw [← hT1] at HKK
          have HT1 := Lib.hid hT1
          clear hc hj hpg hin hpe hne hL1 hT1 hjG
          have hj1 := HJ.out.1
          have hj2 := HJ.out.2
          go_wp2_with fail
          clear hj1 hj2 ht0' ht0b
          refine wp_region_noPanic ?_
          refine wp_region_held_drew (S := fun W => W.cell? ⟨bl, o + j * 2, none⟩ = some (.int .i64 p) ∧ W.cell? ⟨bl, o + j * 2 + 1, none⟩ = some (.int .i64 n)) (by kernel_rfl) (⟨e0, e1⟩) (fun hHeld => ?_)
          refine wpAnyH_take (i := 0) (oi := ({ dst := some 68, op := Op.move (Operand.tmp 8), type := 24, pos := "law.go:124", after := #[], guard := none } : Oper)) (v := ?_) rfl (by kernel_rfl) (by kernel_rfl) (by kernel_rfl) (fun _ _ _ h => h) (Or.inl ⟨by rfl, ?_⟩) (by assumption) ?_
          rotate_left
          · (intro w hSw; (try dsimp only at hSw); go_simp) <;> with_reducible rfl
          (try simp only [Act.put, List.setIfInBounds_toArray, List.set_cons_zero, List.set_cons_succ])
          refine wpAnyH_take (i := 1) (oi := ({ dst := some 69, op := Op.move (Operand.tmp 9), type := 26, pos := "law.go:124", after := #[], guard := none } : Oper)) (v := ?_) rfl (by kernel_rfl) (by kernel_rfl) (by kernel_rfl) (fun _ _ _ h => h) (Or.inl ⟨by rfl, ?_⟩) (by assumption) ?_
          rotate_left
          · (intro w hSw; (try dsimp only at hSw); go_simp) <;> with_reducible rfl
          (try simp only [Act.put, List.setIfInBounds_toArray, List.set_cons_zero, List.set_cons_succ])
          refine wpAnyH_take (i := 2) (oi := ({ dst := some 70, op := Op.move (Operand.tmp 14), type := 3, pos := "law.go:124", after := #[], guard := none } : Oper)) (v := ?_) rfl (by kernel_rfl) (by kernel_rfl) (by kernel_rfl) (fun _ _ _ h => h) (Or.inl ⟨by rfl, ?_⟩) (by assumption) ?_
          rotate_left
          · (intro w hSw; (try dsimp only at hSw); go_simp) <;> with_reducible rfl
          (try simp only [Act.put, List.setIfInBounds_toArray, List.set_cons_zero, List.set_cons_succ])
          refine wpAnyH_take (i := 3) (oi := ({ dst := some 71, op := Op.indexAddr 26 (Operand.tmp 69) (Operand.tmp 70), type := 0, pos := "law.go:124", after := #[{ on := 1, ground := Ground.data }, { on := 2, ground := Ground.data }], guard := none } : Oper)) (v := ?_) rfl (by kernel_rfl) (by kernel_rfl) (by kernel_rfl) (fun _ _ _ h => h) (Or.inl ⟨by rfl, ?_⟩) (by assumption) ?_
          rotate_left
          · (intro w hSw; (try dsimp only at hSw); go_simp) <;> with_reducible rfl
          (try simp only [Act.put, List.setIfInBounds_toArray, List.set_cons_zero, List.set_cons_succ])
          refine wpAnyH_take (i := 4) (oi := ({ dst := some 72, op := Op.fieldAddr 51 (Operand.tmp 71) 0, type := 0, pos := "law.go:124", after := #[{ on := 3, ground := Ground.data }], guard := none } : Oper)) (v := ?_) rfl (by kernel_rfl) (by kernel_rfl) (by kernel_rfl) (fun _ _ _ h => h) (Or.inl ⟨by rfl, ?_⟩) (by assumption) ?_
          rotate_left
          · (intro w hSw; (try dsimp only at hSw); go_simp) <;> with_reducible rfl
          (try simp only [Act.put, List.setIfInBounds_toArray, List.set_cons_zero, List.set_cons_succ])
          refine wpAnyH_take (i := 5) (oi := ({ dst := some 73, op := Op.load 3 (Operand.tmp 72), type := 3, pos := "law.go:124", after := #[{ on := 4, ground := Ground.data }], guard := none } : Oper)) (v := ?_) rfl (by kernel_rfl) (by kernel_rfl) (by kernel_rfl) (fun _ _ _ h => h) (Or.inl ⟨by rfl, ?_⟩) (by assumption) ?_
          rotate_left
          · (intro w hSw; (try dsimp only at hSw); go_simp) <;> with_reducible rfl
          (try simp only [Act.put, List.setIfInBounds_toArray, List.set_cons_zero, List.set_cons_succ])
          refine wpAnyH_take (i := 6) (oi := ({ dst := some 74, op := Op.move (Operand.tmp 9), type := 26, pos := "law.go:124", after := #[], guard := none } : Oper)) (v := ?_) rfl (by kernel_rfl) (by kernel_rfl) (by kernel_rfl) (fun _ _ _ h => h) (Or.inl ⟨by rfl, ?_⟩) (by assumption) ?_
          rotate_left
          · (intro w hSw; (try dsimp only at hSw); go_simp) <;> with_reducible rfl
          (try simp only [Act.put, List.setIfInBounds_toArray, List.set_cons_zero, List.set_cons_succ])
          refine wpAnyH_take (i := 7) (oi := ({ dst := some 75, op := Op.move (Operand.tmp 14), type := 3, pos := "law.go:124", after := #[], guard := none } : Oper)) (v := ?_) rfl (by kernel_rfl) (by kernel_rfl) (by kernel_rfl) (fun _ _ _ h => h) (Or.inl ⟨by rfl, ?_⟩) (by assumption) ?_
          rotate_left
          · (intro w hSw; (try dsimp only at hSw); go_simp) <;> with_reducible rfl
          (try simp only [Act.put, List.setIfInBounds_toArray, List.set_cons_zero, List.set_cons_succ])
          refine wpAnyH_take (i := 8) (oi := ({ dst := some 76, op := Op.indexAddr 26 (Operand.tmp 74) (Operand.tmp 75), type := 0, pos := "law.go:124", after := #[{ on := 6, ground := Ground.data }, { on := 7, ground := Ground.data }], guard := none } : Oper)) (v := ?_) rfl (by kernel_rfl) (by kernel_rfl) (by kernel_rfl) (fun _ _ _ h => h) (Or.inl ⟨by rfl, ?_⟩) (by assumption) ?_
          rotate_left
          · (intro w hSw; (try dsimp only at hSw); go_simp) <;> with_reducible rfl
          (try simp only [Act.put, List.setIfInBounds_toArray, List.set_cons_zero, List.set_cons_succ])
          refine wpAnyH_take (i := 9) (oi := ({ dst := some 77, op := Op.fieldAddr 51 (Operand.tmp 76) 1, type := 0, pos := "law.go:124", after := #[{ on := 8, ground := Ground.data }], guard := none } : Oper)) (v := ?_) rfl (by kernel_rfl) (by kernel_rfl) (by kernel_rfl) (fun _ _ _ h => h) (Or.inl ⟨by rfl, ?_⟩) (by assumption) ?_
          rotate_left
          · (intro w hSw; (try dsimp only at hSw); go_simp) <;> with_reducible rfl
          (try simp only [Act.put, List.setIfInBounds_toArray, List.set_cons_zero, List.set_cons_succ])
          refine wpAnyH_take (i := 10) (oi := ({ dst := some 78, op := Op.load 3 (Operand.tmp 77), type := 3, pos := "law.go:124", after := #[{ on := 9, ground := Ground.data }], guard := none } : Oper)) (v := ?_) rfl (by kernel_rfl) (by kernel_rfl) (by kernel_rfl) (fun _ _ _ h => h) (Or.inl ⟨by rfl, ?_⟩) (by assumption) ?_
          rotate_left
          · (intro w hSw; (try dsimp only at hSw); go_simp) <;> with_reducible rfl
          (try simp only [Act.put, List.setIfInBounds_toArray, List.set_cons_zero, List.set_cons_succ])
          refine wpAnyH_ready (rs := [11]) (by kernel_rfl) (by simp) ?_
          refine AllReadyH.cons (o := ({ dst := some 79, op := Op.call { callee := Callee.value (Operand.func 12), args := #[Operand.tmp 68, Operand.tmp 73, Operand.tmp 78], argTypes := #[24, 3, 3] }, type := 32, pos := "law.go:124", after := #[{ on := 0, ground := Ground.data }, { on := 5, ground := Ground.data }, { on := 10, ground := Ground.data }], guard := none } : Oper)) rfl (fun K hK => ?_) ?_
          · go_simp
            refine (s_give HB.out.std.drew (by have := HB.out.few; omega) p n hp).mono ?_
            rintro e w4 ⟨rfl, h4, g4⟩
            rw [GE.out.1]
            rw [GE.out.2, ← HT1.out] at h4
            have H4 := Lib.hid (And.intro h4 (HB.out.std.drew.runs (HB.out.runs.below (Below.refl _ _).drew) g4))
            clear h4 g4
            go_wp2_with fail
            refine hK.out _ _ ?_ (fun hHeld => ?_)
            · exact HKK.out _ H4.out
            clear hK K
            (try simp only [Act.put, List.setIfInBounds_toArray, List.set_cons_zero, List.set_cons_succ])
            refine wpAnyH_take (i := 12) (oi := ({ dst := some 80, op := Op.binOp BinOp.neq 32 (Operand.tmp 79) (Operand.const (Value.int IntKind.i64 0)) 32, type := 4, pos := "law.go:124", after := #[{ on := 11, ground := Ground.data }], guard := none } : Oper)) (v := ?_) rfl (by kernel_rfl) (by kernel_rfl) (by kernel_rfl) (fun _ _ _ h => h) (Or.inl ⟨by rfl, ?_⟩) (by assumption) ?_
            rotate_left
            · (intro w hSw; (try dsimp only at hSw); go_simp) <;> with_reducible rfl
            (try simp only [Act.put, List.setIfInBounds_toArray, List.set_cons_zero, List.set_cons_succ])
            refine wpAnyH_done (by kernel_rfl) ?_ _
            refine NoPanic.normal ?_
            have HF := Lib.hid (show ∃ A2, (∀ W, (Instr.slice 26 (.slice (some ⟨bl, o, none⟩) t c) (some (.int .i64 ((j : Int) + 1))) none none).run Try.prog W = .ok (.slice A2 (t - (j + 1)) (c - (j + 1))) W) ∧ (j + 1 < t → A2 = some ⟨bl, o + (j + 1) * 2, none⟩) from by
              obtain ⟨A2, h1, h2⟩ := rcut_from bl o t c (j + 1) (by omega) HB.out.cap
              rw [show ((j + 1 : Nat) : Int) = (j : Int) + 1 by omega] at h1
              exact ⟨A2, h1, h2⟩)
            have hjc : j ≤ c := by have := HB.out.cap; omega
            have r1 := fun W => rcut_to bl o t c j hjc W
            obtain ⟨A2, r2, hA2⟩ := HF.out
            obtain ⟨m2, hm2⟩ : ∃ m2, m2 = t - (j + 1) := ⟨_, rfl⟩
            obtain ⟨c2, hc2⟩ : ∃ c2, c2 = c - (j + 1) := ⟨_, rfl⟩
            rw [← hm2, ← hc2] at r2
            have HMT := Lib.hid (show j + 1 + m2 = t by omega)
            have HA2 := Lib.hid (show 0 < m2 → A2 = some ⟨bl, o + (j + 1) * 2, none⟩ from fun h => hA2 (by omega))
            have ht60 : t ≤ 60 := by have := HB.out.few; omega
            have hj60 : j ≤ 60 := by omega
            have hm60 : m2 ≤ 60 := by omega
            have HDL := Lib.hid (show m2 = (G.drop (j + 1)).length by rw [List.length_drop, ← HB.out.len, hm2])
            have HTL := Lib.hid (show j = (G.take j).length by rw [List.length_take, ← HB.out.len]; omega)
            have OWN := Lib.hid (owns_of (w := w4) (B := w4.heap.size) (A := none) (l := []) (c := 0) (.inl ⟨rfl, rfl, rfl⟩))
            have RL := Lib.hid (show (rc (G.drop (j + 1))).length = m2 * 2 by rw [rc_length, ← HDL.out])
            clear hA2 hm2 hc2 HF
            by_cases hj0 : j = 0
            · have ap1 : ∀ (W : World) (ty : TypeId), (Builtin.append_ #[26, 26] ty #[.slice none 0 0, .slice (some ⟨bl, o, none⟩) j c]).run Try.prog W = .ok (.slice none 0 0) W := fun W ty => by rw [hj0]; exact run_append0 W ty none 0 0 (Nat.le_refl _) (some ⟨bl, o, none⟩) c
              have HTD := Lib.hid (show G.take j ++ G.drop (j + 1) = G.drop (j + 1) by rw [hj0]; simp)
              have HJ0 := Lib.hid hj0
              by_cases hm0 : m2 = 0
              · have ap2 : ∀ (W : World) (ty : TypeId), (Builtin.append_ #[26, 26] ty #[.slice none 0 0, .slice A2 m2 c2]).run Try.prog W = .ok (.slice none 0 0) W := fun W ty => by rw [hm0]; exact run_append0 W ty none 0 0 (Nat.le_refl _) A2 c2
                have HN := Lib.hid (show Gb w w4 g P L1 T1 (k + 1) none 0 0 (G.take j ++ G.drop (j + 1)) from ⟨by rw [HTD.out, ← HDL.out, hm0], Nat.le_refl _, by have := HB.out.few; omega, fun h => absurd h (by rw [HTD.out, ← HDL.out, hm0]; omega), H4.out.1, PT.out⟩)
                clear hj0 hm0
                go_wp2_with (first
                  | (at_builtin; refine Lib.wpList_append_run _ rfl _ _ 26 26 rfl (.slice none 0 0) (.slice (some ⟨bl, o, none⟩) j c) rfl rfl _ _ (ap1 _ _) ?_)
                  | (at_builtin; refine Lib.wpList_append_run _ rfl _ _ 26 26 rfl (.slice none 0 0) (.slice A2 m2 c2) rfl rfl _ _ (ap2 _ _) ?_))
                go_roundw
                case rel => exact ⟨0, 0, k + 1, none, _, L1, T1, rfl, HN.out⟩
                case measure => simp [slLen]; omega
              · have hA2 := HA2.out (by omega)
                subst hA2
                have SRC := Lib.hid (src_cells (H4.out.2.drop (j + 1)))
                have ST := Lib.hid (fun (g1 c1 : Nat) (w6 : World) hrow hgr hat => gb_one (w6 := w6) (g1 := g1) (c1 := c1) (S := G.drop (j + 1)) (m := m2) H4.out.1 HDL.out hrow hgr hat)
                have hm01 : 0 < m2 := by omega
                clear hj0 hm0
                go_wp2_with (first
                  | (at_builtin; refine Lib.wpList_append_run _ rfl _ _ 26 26 rfl (.slice none 0 0) (.slice (some ⟨bl, o, none⟩) j c) rfl rfl _ _ (ap1 _ _) ?_)
                  | (at_builtin; refine wpList_append_lies _ rfl _ _ 26 rfl w4.heap.size 51 i0 (.agg #[.int .i64 0, .int .i64 0]) 2 16 Try.underlying26 HI.out.1 HI.out.2.1 HI.out.2.2.1 HI.out.2.2.2 rfl (by decide) (.slice none 0 0) 0 [] rfl OWN.out ⟨bl, o + (j + 1) * 2, none⟩ m2 c2 (rc (G.drop (j + 1))) rfl RL.out SRC.out (rc_one _) (by omega) (by unfold maxLen; omega) (by omega) (Nat.le_refl _) _ rfl ?_; intro g1 c1 w6 hrow hgr hat hlt6; (have HN6 := Lib.hid (ST.out _ _ _ hrow hgr hat)); clear hrow hgr hat hlt6))
                have HN := Lib.hid (show Gb w w6 g P L1 T1 (k + 1) (some ⟨g1, 0, none⟩) m2 c1 (G.take j ++ G.drop (j + 1)) from by
                  have h6 := HN6.out
                  have hpt := PT.out
                  rw [HTD.out] at hpt ⊢
                  exact ⟨HDL.out, by rw [HDL.out]; exact h6.2.1.cap, by have := HB.out.few; have := HMT.out; omega, h6.2.1.runs, h6.2.2.1, hpt⟩)
                go_roundw
                case rel => exact ⟨m2, c1, k + 1, _, _, L1, T1, by simp, HN.out⟩
                case measure => have := HMT.out; simp [slLen]; omega
            · have SRC1 := Lib.hid (src_cells (H4.out.2.take j))
              have RL1 := Lib.hid (show (rc (G.take j)).length = j * 2 by rw [rc_length, ← HTL.out])
              have ST1 := Lib.hid (fun (g1 c1 : Nat) (w6 : World) hrow hgr hat => gb_one (w6 := w6) (g1 := g1) (c1 := c1) (S := G.take j) (m := j) H4.out.1 HTL.out hrow hgr hat)
              have hj01 : 0 < j := by omega
              clear hj0
              by_cases hm0 : m2 = 0
              · have ap2 : ∀ (W : World) (ty : TypeId) (g1 c1 : Nat), j ≤ c1 → (Builtin.append_ #[26, 26] ty #[.slice (some ⟨g1, 0, none⟩) j c1, .slice A2 m2 c2]).run Try.prog W = .ok (.slice (some ⟨g1, 0, none⟩) j c1) W := fun W ty g1 c1 hc => by rw [hm0]; exact run_append0 W ty (some ⟨g1, 0, none⟩) j c1 hc A2 c2
                have HTD := Lib.hid (show G.take j ++ G.drop (j + 1) = G.take j by rw [List.eq_nil_of_length_eq_zero (l := G.drop (j + 1)) (by rw [← HDL.out, hm0]), List.append_nil])
                have HM0 := Lib.hid hm0
                clear hm0
                go_wp2_with (first
                  | (at_builtin; refine wpList_append_lies _ rfl _ _ 26 rfl w4.heap.size 51 i0 (.agg #[.int .i64 0, .int .i64 0]) 2 16 Try.underlying26 HI.out.1 HI.out.2.1 HI.out.2.2.1 HI.out.2.2.2 rfl (by decide) (.slice none 0 0) 0 [] rfl OWN.out ⟨bl, o, none⟩ j c (rc (G.take j)) rfl RL1.out SRC1.out (rc_one _) (by omega) (by unfold maxLen; omega) (by omega) (Nat.le_refl _) _ rfl ?_; intro g1 c1 w6 hrow hgr hat hlt6; (have HN6 := Lib.hid (ST1.out _ _ _ hrow hgr hat)); clear hrow hgr hat hlt6; have hjc1 : j ≤ c1 := by (have h6 := HN6.out.2.1.cap; have h7 := HTL.out; omega))
                  | (at_builtin; refine Lib.wpList_append_run _ rfl _ _ 26 26 rfl (.slice (some ⟨g1, 0, none⟩) j c1) (.slice A2 m2 c2) rfl rfl _ _ (ap2 _ _ _ _ hjc1) ?_))
                have HN := Lib.hid (show Gb w w6 g P L1 T1 (k + 1) (some ⟨g1, 0, none⟩) j c1 (G.take j ++ G.drop (j + 1)) from by
                  have h6 := HN6.out
                  have hpt := PT.out
                  rw [HTD.out] at hpt ⊢
                  exact ⟨HTL.out, by have h7 := h6.2.1.cap; have h8 := HTL.out; omega, by have := HB.out.few; have := HMT.out; omega, h6.2.1.runs, h6.2.2.1, hpt⟩)
                go_roundw
                case rel => exact ⟨j, c1, k + 1, _, _, L1, T1, by simp, HN.out⟩
                case measure => have := HMT.out; simp [slLen]; omega
              · have hA2 := HA2.out (by omega)
                subst hA2
                have hm01 : 0 < m2 := by omega
                have SRC := Lib.hid (H4.out.2.drop (j + 1))
                clear hm0
                go_wp2_with (first
                  | (at_builtin; refine wpList_append_lies _ rfl _ _ 26 rfl w4.heap.size 51 i0 (.agg #[.int .i64 0, .int .i64 0]) 2 16 Try.underlying26 HI.out.1 HI.out.2.1 HI.out.2.2.1 HI.out.2.2.2 rfl (by decide) (.slice none 0 0) 0 [] rfl OWN.out ⟨bl, o, none⟩ j c (rc (G.take j)) rfl RL1.out SRC1.out (rc_one _) (by omega) (by unfold maxLen; omega) (by omega) (Nat.le_refl _) _ rfl ?_; intro g1 c1 w6 hrow hgr hat hlt6; (have HN6 := Lib.hid (ST1.out _ _ _ hrow hgr hat)); clear hrow hgr hat hlt6; (have OWN2 := Lib.hid (mine_row6 HN6.out.2.1 HTL.out)); (have SRC2 := Lib.hid (src_cells (SRC.out.below HN6.out.2.2.2.2))))
                  | (at_builtin; refine wpList_append_lies _ rfl _ _ 26 rfl w4.heap.size 51 i0 (.agg #[.int .i64 0, .int .i64 0]) 2 16 Try.underlying26 HI.out.1 HI.out.2.1 HI.out.2.2.1 HI.out.2.2.2 rfl (by decide) (.slice (some ⟨g1, 0, none⟩) j c1) j (rc (G.take j)) rfl OWN2.out ⟨bl, o + (j + 1) * 2, none⟩ m2 c2 (rc (G.drop (j + 1))) rfl RL.out SRC2.out (rc_one _) (by omega) (by unfold maxLen; omega) (by omega) HN6.out.1.2 _ rfl ?_; intro g2 c3 w7 hrow hgr hat hlt6; (have HN7 := Lib.hid (gb_two HN6.out.2.2.1 HN6.out.2.1 HN6.out.1.1 H4.out.1.bel.size H4.out.1.has.lt HN6.out.2.2.2.1 HDL.out hrow hgr hat)); clear hrow hgr hat hlt6))
                have HN := Lib.hid (show Gb w w7 g P L1 T1 (k + 1) (some ⟨g2, 0, none⟩) (j + m2) c3 (G.take j ++ G.drop (j + 1)) from by
                  have h7 := HN7.out
                  have hl : j + m2 = (G.take j ++ G.drop (j + 1)).length := by rw [List.length_append, ← HTL.out, ← HDL.out]
                  exact ⟨hl, by rw [hl]; exact h7.1.cap, by have := HB.out.few; have := HMT.out; omega, h7.1.runs, h7.2, PT.out⟩)
                go_roundw
                case rel => exact ⟨j + m2, c3, k + 1, _, _, L1, T1, by simp, HN.out⟩
                case measure => have := HMT.out; simp [slLen]; omega
          exact AllReadyH.nil
        · have hG : G = [] := List.eq_nil_of_length_eq_zero (by have := HB.out.len; omega)
          have hl : l = [⟨0, P⟩] := by
            have hp := HB.out.part
            rw [hG] at hp
            exact hp.done HB.out.std.fit.ok HB.out.std.p1
          have HS := Lib.hid (show Std w wr g P [⟨0, P⟩] T k from by rw [← hl]; exact HB.out.std)
          have hk60 : k ≤ 60 := by have := HB.out.few; omega
          have ht0b : decide ((0 : Int) < (t : Int)) = false := by simp; omega
          clear hG hl HB
          go_wp2_with fail
          clear ht0b
          refine (s_runs HS.out).mono ?_
          rintro e w5 ⟨A5, t5, c5, rfl, ht5, r5, b5⟩
          obtain rfl : t5 = 1 := ht5
          obtain ⟨bl, o, rfl, hc⟩ := r5 (by simp)
          have q0 := (hc 0 (by simp)).1
          have q1 := (hc 0 (by simp)).2
          simp only [Nat.zero_mul, Nat.add_zero, List.getElem_cons_zero] at q0 q1
          have H5 := Lib.hid (HS.out.below b5)
          have HQ := Lib.hid (show ∀ W, Below w5.heap.size w5 W → W.cell? ⟨bl, o, none⟩ = some (.int .i64 0) ∧ W.cell? ⟨bl, o + 1, none⟩ = some (.int .i64 P) from fun W hW => ⟨(hW.cell (lt_of_cell q0)).trans q0, (hW.cell (lt_of_cell q1)).trans q1⟩)
          clear hc r5 b5 q0 q1
          go_wp2_with fail
          refine wp_region_noPanic ?_
          refine wp_region_held_drew (S := fun W => W.cell? ⟨bl, o, none⟩ = some (.int .i64 0) ∧ W.cell? ⟨bl, o + 1, none⟩ = some (.int .i64 P)) (by kernel_rfl) (HQ.out _ (Below.refl w5.heap.size w5).drew) (fun hHeld => ?_)
          refine wpAnyH_take (i := 0) (oi := ({ dst := some 94, op := Op.move (Operand.tmp 16), type := 26, pos := "law.go:132", after := #[], guard := none } : Oper)) (v := ?_) rfl (by kernel_rfl) (by kernel_rfl) (by kernel_rfl) (fun _ _ _ h => h) (Or.inl ⟨by rfl, ?_⟩) (by assumption) ?_
          rotate_left
          · (intro w hSw; (try dsimp only at hSw); go_simp) <;> with_reducible rfl
          (try simp only [Act.put, List.setIfInBounds_toArray, List.set_cons_zero, List.set_cons_succ])
          refine wpAnyH_take (i := 1) (oi := ({ dst := some 95, op := Op.call { callee := Callee.builtin Builtin.len, args := #[Operand.tmp 94], argTypes := #[26] }, type := 3, pos := "law.go:132", after := #[{ on := 0, ground := Ground.data }], guard := none } : Oper)) (v := ?_) rfl (by kernel_rfl) (by kernel_rfl) (by kernel_rfl) (fun _ _ _ h => h) (Or.inl ⟨by rfl, ?_⟩) (by assumption) ?_
          rotate_left
          · (intro w hSw; (try dsimp only at hSw); go_simp) <;> with_reducible rfl
          (try simp only [Act.put, List.setIfInBounds_toArray, List.set_cons_zero, List.set_cons_succ])
          refine wpAnyH_take (i := 2) (oi := ({ dst := some 96, op := Op.binOp BinOp.neq 3 (Operand.tmp 95) (Operand.const (Value.int IntKind.i64 1)) 3, type := 4, pos := "law.go:132", after := #[{ on := 1, ground := Ground.data }], guard := none } : Oper)) (v := ?_) rfl (by kernel_rfl) (by kernel_rfl) (by kernel_rfl) (fun _ _ _ h => h) (Or.inl ⟨by rfl, ?_⟩) (by assumption) ?_
          rotate_left
          · (intro w hSw; (try dsimp only at hSw); go_simp) <;> with_reducible rfl
          (try simp only [Act.put, List.setIfInBounds_toArray, List.set_cons_zero, List.set_cons_succ])
          refine wpAnyH_take (i := 3) (oi := ({ dst := some 97, op := Op.move (Operand.tmp 96), type := 4, pos := "law.go:132", after := #[{ on := 2, ground := Ground.data }], guard := none } : Oper)) (v := ?_) rfl (by kernel_rfl) (by kernel_rfl) (by kernel_rfl) (fun _ _ _ h => h) (Or.inl ⟨by rfl, ?_⟩) (by assumption) ?_
          rotate_left
          · (intro w hSw; (try dsimp only at hSw); go_simp) <;> with_reducible rfl
          (try simp only [Act.put, List.setIfInBounds_toArray, List.set_cons_zero, List.set_cons_succ])
          refine wpAnyH_take (i := 4) (oi := ({ dst := some 98, op := Op.move (Operand.tmp 16), type := 26, pos := "law.go:132", after := #[{ on := 3, ground := Ground.guard }], guard := some (3, false) } : Oper)) (v := ?_) rfl (by kernel_rfl) (by kernel_rfl) (by kernel_rfl) (fun _ _ _ h => h) (Or.inl ⟨by rfl, ?_⟩) (by assumption) ?_
          rotate_left
          · (intro w hSw; (try dsimp only at hSw); go_simp) <;> with_reducible rfl
          (try simp only [Act.put, List.setIfInBounds_toArray, List.set_cons_zero, List.set_cons_succ])
          refine wpAnyH_take (i := 5) (oi := ({ dst := some 99, op := Op.indexAddr 26 (Operand.tmp 98) (Operand.const (Value.int IntKind.i64 0)), type := 0, pos := "law.go:132", after := #[{ on := 4, ground := Ground.data }, { on := 3, ground := Ground.guard }], guard := some (3, false) } : Oper)) (v := ?_) rfl (by kernel_rfl) (by kernel_rfl) (by kernel_rfl) (fun _ _ _ h => h) (Or.inl ⟨by rfl, ?_⟩) (by assumption) ?_
          rotate_left
          · (intro w hSw; (try dsimp only at hSw); go_simp) <;> with_reducible rfl
          (try simp only [Act.put, List.setIfInBounds_toArray, List.set_cons_zero, List.set_cons_succ])
          refine wpAnyH_take (i := 6) (oi := ({ dst := some 100, op := Op.load 51 (Operand.tmp 99), type := 51, pos := "law.go:132", after := #[{ on := 5, ground := Ground.data }, { on := 3, ground := Ground.guard }], guard := some (3, false) } : Oper)) (v := ?_) rfl (by kernel_rfl) (by kernel_rfl) (by kernel_rfl) (fun _ _ _ h => h) (Or.inl ⟨by rfl, ?_⟩) (by assumption) ?_
          rotate_left
          · (intro w hSw; (try dsimp only at hSw); go_simp) <;> with_reducible rfl
          (try simp only [Act.put, List.setIfInBounds_toArray, List.set_cons_zero, List.set_cons_succ])
          refine wpAnyH_take (i := 7) (oi := ({ dst := some 101, op := Op.move (Operand.tmp 8), type := 24, pos := "law.go:132", after := #[{ on := 3, ground := Ground.guard }], guard := some (3, false) } : Oper)) (v := ?_) rfl (by kernel_rfl) (by kernel_rfl) (by kernel_rfl) (fun _ _ _ h => h) (Or.inl ⟨by rfl, ?_⟩) (by assumption) ?_
          rotate_left
          · (intro w hSw; (try dsimp only at hSw); go_simp) <;> with_reducible rfl
          (try simp only [Act.put, List.setIfInBounds_toArray, List.set_cons_zero, List.set_cons_succ])
          refine wpAnyH_ready (rs := [8]) (by kernel_rfl) (by simp) ?_
          refine AllReadyH.cons (o := ({ dst := some 102, op := Op.call { callee := Callee.value (Operand.func 22), args := #[Operand.tmp 101], argTypes := #[24] }, type := 3, pos := "law.go:132", after := #[{ on := 7, ground := Ground.data }, { on := 3, ground := Ground.chain }, { on := 3, ground := Ground.guard }], guard := some (3, false) } : Oper)) rfl (fun K hK => ?_) ?_
          · go_simp
            refine (s_pages H5.out.drew).mono ?_
            rintro e w6 ⟨rfl, b6⟩
            have B6 : Below w5.heap.size w5 w6 := drew_call b6
            have H6 := Lib.hid (H5.out.below B6)
            clear b6
            go_wp2_with fail
            refine hK.out _ _ ?_ (fun hHeld => ?_)
            · exact HQ.out _ B6
            clear hK K
            (try simp only [Act.put, List.setIfInBounds_toArray, List.set_cons_zero, List.set_cons_succ])
            refine wpAnyH_take (i := 9) (oi := ({ dst := some 103, op := Op.build 51 #[(0, Operand.const (Value.int IntKind.i64 0)), (1, Operand.tmp 102)], type := 51, pos := "law.go:132", after := #[{ on := 8, ground := Ground.data }, { on := 3, ground := Ground.guard }], guard := some (3, false) } : Oper)) (v := ?_) rfl (by kernel_rfl) (by kernel_rfl) (by kernel_rfl) (fun _ _ _ h => h) (Or.inl ⟨by rfl, ?_⟩) (by assumption) ?_
            rotate_left
            · (intro w hSw; (try dsimp only at hSw); go_simp) <;> with_reducible rfl
            (try simp only [Act.put, List.setIfInBounds_toArray, List.set_cons_zero, List.set_cons_succ])
            refine wpAnyH_take (i := 10) (oi := ({ dst := some 104, op := Op.binOp BinOp.neq 51 (Operand.tmp 100) (Operand.tmp 103) 51, type := 4, pos := "law.go:132", after := #[{ on := 6, ground := Ground.data }, { on := 9, ground := Ground.data }, { on := 3, ground := Ground.guard }], guard := some (3, false) } : Oper)) (v := ?_) rfl (by kernel_rfl) (by kernel_rfl) (by kernel_rfl) (fun _ _ _ h => h) (Or.inl ⟨by rfl, ?_⟩) (by assumption) ?_
            rotate_left
            · (intro w hSw; (try dsimp only at hSw); go_simp) <;> with_reducible rfl
            (try simp only [Act.put, List.setIfInBounds_toArray, List.set_cons_zero, List.set_cons_succ])
            refine wpAnyH_take (i := 11) (oi := ({ dst := some 105, op := Op.pick (Operand.tmp 97) (Operand.const (Value.bool true)) (Operand.tmp 104), type := 4, pos := "law.go:132", after := #[{ on := 3, ground := Ground.data }, { on := 10, ground := Ground.data }], guard := none } : Oper)) (v := ?_) rfl (by kernel_rfl) (by kernel_rfl) (by kernel_rfl) (fun _ _ _ h => h) (Or.inl ⟨by rfl, ?_⟩) (by assumption) ?_
            rotate_left
            · (intro w hSw; (try dsimp only at hSw); go_simp) <;> with_reducible rfl
            (try simp only [Act.put, List.setIfInBounds_toArray, List.set_cons_zero, List.set_cons_succ])
            refine wpAnyH_done (by kernel_rfl) ?_ _
            refine NoPanic.normal ?_
            go_wp2_with fail
            refine (s_pages H6.out).mono ?_
            rintro e w7 ⟨rfl, b7⟩
            have H7 := Lib.hid (H6.out.below b7)
            clear b7
            go_wp2_with fail
            refine (s_take H7.out (by omega) P).mono ?_
            rintro e w8 ⟨rfl, h8, _⟩
            have hst := all_step H7.out.p1
            rw [hst.2.2] at h8
            rw [hst.1, hst.2.1]
            have H8 := Lib.hid h8
            clear h8 hst
            go_wp2_with fail
            refine (s_free H8.out).mono ?_
            rintro e w9 ⟨rfl, b9⟩
            rw [show M.total [] = 0 from rfl]
            have H9 := Lib.hid (H8.out.below b9)
            clear b9
            go_wp2_with fail
            refine (s_largest H9.out).mono ?_
            rintro e w10 ⟨rfl, b10⟩
            rw [show M.most [] = 0 from rfl]
            have H10 := Lib.hid (H9.out.below b10)
            clear b10
            go_wp2_with fail
            go_ret
            exact ⟨rfl, H10.out.bel⟩
          exact AllReadyH.nil

/-! The row's step. -/
set_option maxRecDepth 100000 in
theorem lifted (os : Os) (started : os.Started) (H : Type) (enc : TypeId × Value → H) :
    ReturnsInHanded {} Try.checked os 5 .any (Rows.pagerunAllSpec.pre6 enc Try.prog Try.f5 Rows.pagerunAllRow.domain false) (Rows.pagerunAllSpec.post enc Try.prog Try.f5 false true false false) := by
  refine returnsInHanded_of_change (C := Try.checked) own started (by kernel_rfl) Try.func5
    (ChangeSpec.witness6 (enc := enc) (C := Try.checked) false ⟨#[], #[.int .u8 0, .slice none 0 0, .int .u8 0], []⟩ 8 (by kernel_rfl) (by kernel_rfl) (by kernel_rfl) (by kernel_rfl)) ?_
  intro W base args ds gs before hval0 hW hcnd _
  have hval : ∀ (j : Nat) t v, Try.f5.params[j]? = some t → args[j]? = some v → Value.okWide Try.prog W .any base t v := hval0
  have hW' := hW
  obtain ⟨p, q, hA0, hV, rfl, hfz, hnd⟩ := hW
  have hA : DataW.TrodAll enc Try.prog W 0 (fun _ => true) true Try.f5.params.toList args.toList ds p := hA0
  rw [Try.params5] at hA hval
  obtain ⟨v0, vs0, d0, ds0, p0, q0, hargs, rfl, rfl, h0, r0⟩ := trodAll_cons hA
  obtain ⟨v1, vs1, d1, ds1, p1, q1, rfl, rfl, rfl, h1, r1⟩ := trodAll_cons r0
  obtain ⟨v2, vs2, d2, ds2, p2, q2, rfl, rfl, rfl, h2, r2⟩ := trodAll_cons r1
  obtain ⟨rfl, rfl, rfl⟩ := trodAll_nil r2
  obtain rfl : args = #[v0, v1, v2] := by cases args; simp_all
  obtain ⟨rfl, rfl⟩ := trodVars_none hV
  obtain ⟨a0, rfl, rfl, rfl, w0⟩ := open_int Try.underlying5 (hval 0 5 v0 rfl rfl) h0
  obtain ⟨a1, len1, cap1, rfl⟩ := okWide_slice Try.underlying49 (hval 1 49 v1 rfl rfl)
  have k1 := h1
  have lt1 : ∀ x ∈ p1, x.block < W.heap.size := by obtain ⟨m, hm⟩ := k1; exact DataW.trod_lt m _ _ _ hm
  obtain ⟨z1, w1⟩ : ∃ zs, IsRow .u8 W a1 len1 cap1 zs := by
    obtain ⟨fuel, hf⟩ := h1
    rcases open_ints Try.underlying49 Try.underlying5 (by kernel_rfl) hf with ⟨hcs, _⟩ | ⟨x, l, c, zs, hcs, _, hl, hm, hz, _, hcell, hwz⟩
    · simp [Value.cells] at hcs
      obtain ⟨rfl, rfl, rfl⟩ := hcs
      exact ⟨[], .inl ⟨rfl, rfl, rfl, rfl⟩⟩
    · simp [Value.cells] at hcs
      obtain ⟨rfl, rfl, rfl⟩ := hcs
      exact ⟨zs, .inr ⟨_, rfl, hl, hm, by simpa using hz, hcell, hwz⟩⟩
  obtain ⟨a2, rfl, rfl, rfl, w2⟩ := open_int Try.underlying5 (hval 2 5 v2 rfl rfl) h2
  clear hA0 hval0
  refine (walk a0 a1 len1 cap1 z1 a2 W w0 w1 w2).mono fun e W' ⟨he, bel⟩ => ?_
  subst he
  exact ⟨_, rfl, _, _, _, [], _, [], hW', trodAll_mk1 (shut_bool Try.underlying4 _), (trodAll_cons_mk (shut_int Try.underlying5 w0) (trodAll_cons_mk (Below.trod laidOut (by kernel_rfl) (of_decide_eq_true (by kernel_rfl)) k1 bel lt1) (trodAll_cons_mk (shut_int Try.underlying5 w2) trodAll_mk0))), rfl, bel.frame _, fun h => by cases h⟩

theorem over : Rows.pagerunAllRow.holds Try.pinned (OpenSpec.ofChange Rows.pagerunAllSpec) :=
  OpenClaim.holds_of_wide 5 Try.f5 rfl rfl rfl rfl rfl rfl rfl ⟨rfl, rfl, rfl, rfl, rfl⟩ rfl rfl rfl rfl rfl (by kernel_rfl) Try.func5 (by kernel_rfl)
    (of_decide_eq_true (by kernel_rfl)) (by unfold Func.isWrapper; first | (rw [if_pos (by decide +kernel)]; kernel_rfl) | (rw [if_neg (by decide +kernel)]; exact ⟨rfl, rfl⟩))
    (fun os started H enc _ => lifted os started H enc)

/-- The statement. -/
theorem proved : Rows.PagerunAllSaid := over
#print axioms proved
end Go.Proofs.Ytloiomfbmabfbaa.pagerunAll
