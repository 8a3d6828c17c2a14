/-
  TableReuse: slots are used again, the one that was freed last first, and there are never more than were used at once; for every input the law returns true, and the arguments read behind the call as they read before. No condition.
-/
import Derived.Test.YtbkdlblpoohliaaRows
import Derived.WalkKit
import Derived.ProofKit
import Derived.OpenShut
import Derived.ShutString
import Derived.ChangeOld
import Derived.Below
import Derived.Test.YtbkdlblpoohliaaU13
namespace Go.Proofs.Ytbkdlblpoohliaa.tableReuse
open Go.ChangeShapes Go.WideShapes Go.ChangeAt Go.RowKit
set_option linter.unusedVariables false

theorem own : ownKnob Try.prog.godebug = none := by kernel_rfl

open T13 TI Go.Deep

/-! The walk. -/
set_option maxRecDepth 20000 in
set_option maxHeartbeats 8000000 in
theorem walk (a0 : Int) (a1 : Option Addr) (len1 cap1 : Nat) (z1 : List Int) (w : World) (w0 : (Lit.int .u8 a0).wf = true) (w1 : IsRow .u8 w a1 len1 cap1 z1) :
    Calls Try.prog 5 #[.int .u8 a0, .slice a1 len1 cap1] w fun e w' => e = .returned (.bool true) ∧ Below w.heap.size w w' := by
  obtain ⟨n0, hn0, rfl⟩ := u8_nat w0
  obtain ⟨L, hL, hLies⟩ := row_u8 w1
  obtain ⟨m, hm⟩ : ∃ m : Int, (n0 : Int) % 20 = m := ⟨_, rfl⟩
  obtain ⟨k, hk⟩ : ∃ k : Nat, m + 1 = (k : Int) := ⟨(m + 1).toNat, by omega⟩
  have hk20 : k ≤ 20 := by omega
  have hk0 : 0 < k := by omega
  have HL := Lib.hid (And.intro hL hLies)
  have k1 := Lib.hid (show M.kOk 1 by decide)
  clear w0 hL hLies hn0
  go_enter Try.func5, Try.ntmps5
  go_wp2_with fail
  refine (awake_any _).mono ?_
  rintro e w1 ⟨rfl, b1⟩
  have B1 := Lib.hid b1
  clear b1
  by_cases h40 : 40 < len1
  · go_wp2_with fail
    go_ret
    exact ⟨rfl, B1.out⟩
  have d40 : decide (40 < (len1 : Int)) = false := by simp; omega
  go_wp2_with fail
  clear d40 hm
  refine (s_new B1.out 1).mono ?_
  rintro e w2 ⟨t, rfl, h2, _, _⟩
  rw [← M.fresh_zero] at h2
  have H2 := Lib.hid (show Std w w2 t 1 (M.fresh 0) (fun x => x = t) 0 ∧ Lst w2 31 w.heap.size none 0 0 (hds (M.hl13 0)) (fun x => x = t) from ⟨h2, Lst.none' _ _ _ _⟩)
  clear h2
  go_wp2_with fail
  clear hk
  go_loopw [8, 9] (fun a i wr => ∃ (j c : Nat) (A : Option Addr) (Q : Nat → Prop), j ≤ k ∧ i = .int .i64 (j : Int) ∧ a = .slice A j c ∧ Hid (Std w wr t 1 (M.fresh j) Q j ∧ Lst wr 31 w.heap.size A j c (hds (M.hl13 j)) Q)) (fun _ i _ => k - (intOf i).toNat)
  case atStart => exact ⟨0, 0, none, _, by omega, rfl, rfl, H2⟩
  case round =>
    clear H2
    obtain ⟨j, c, A, Q, hj, rfl, rfl, HS⟩ := hrel
    by_cases hlt : j < k
    · go_wp2_with fail
      obtain ⟨p, hp⟩ : ∃ p, M.hpV 1 (((M.fresh j).at' : Nat) : Int) (((M.fresh j).gn : Nat) : Int) = p := ⟨_, rfl⟩
      have ep : M.hpV 1 (j : Int) 0 = p := by rw [← hp, M.fresh_at, M.fresh_gn]; rfl
      refine (s_add HS.out.1 (by omega) (j : Int) k1.out).mono ?_
      rintro _ w3 ⟨rfl, h3, kk3⟩
      rw [M.fresh_put] at h3
      rw [hp]
      have l3 := HS.out.2.call kk3
      have B3 := (Below.refl w3.heap.size w3).alloc (Nat.le_refl _) (.cells #[.int .u64 p] 31)
      have H3 := Lib.hid (And.intro (h3.below B3) (l3.below B3))
      have LN := Lib.hid (lies_new w3 (.int .u64 p) 31)
      have EP := Lib.hid ep
      clear h3 kk3 l3 B3 hp ep
      go_wp2_with (at_builtin; refine app_u rfl _ _ rfl _ w.heap.size A j c (hds (M.hl13 j)) rfl H3.out.2.row (some ⟨w3.heap.size, 0, none⟩) 1 1 [.int .u64 p] rfl rfl LN.out (hds_one [p]) (by omega) H3.out.1.bel.size ?_; intro A' c' w4 hrow hk4 hat; (have H4 := Lib.hid (H3.out.1.app H3.out.2 hk4 hrow hat)); clear hrow hk4 hat)
      go_roundw
      case rel => exact ⟨j + 1, c', A', _, by omega, by go_num, rfl, Lib.hid (by rw [M.hl_succ, EP.out, hds_append]; exact H4.out)⟩
      case measure => simp [intOf]; omega
    · have e : j = k := by omega
      subst e
      rw [← M.usd_nil] at HS
      have HT := Lib.hid (show Std w wr t 1 (M.usd13 j []) Q j ∧ Lst wr 31 w.heap.size A j c (hds (M.hl13 j)) Q ∧ Lst wr 3 w.heap.size none 0 0 (nats []) Q from ⟨HS.out.1, HS.out.2, Lst.none' _ _ _ _⟩)
      clear HS hj hlt
      go_wp2_with fail
      rename_i wo
      go_loopw [10, 11] (fun a i wr => ∃ (q n2 c2 : Nat) (A2 : Option Addr) (Q : Nat → Prop) (fl : List Nat), q ≤ len1 ∧ i = .int .i64 (q : Int) ∧ a = .slice A2 n2 c2 ∧ n2 ≤ q ∧ Hid (Std w wr t 1 (M.usd13 j fl) Q j ∧ Lst wr 31 w.heap.size A j c (hds (M.hl13 j)) Q ∧ Lst wr 3 w.heap.size A2 n2 c2 (nats fl) Q)) (fun _ i _ => len1 - (intOf i).toNat)
      case atStart => exact ⟨0, 0, 0, none, _, [], by omega, rfl, rfl, by omega, HT⟩
      case round =>
        clear HT
        obtain ⟨q, n2, c2, A2, Q, fl, hq, rfl, rfl, hn2, HS⟩ := hrel
        by_cases hlq : q < len1
        · obtain ⟨ad, rfl, hc⟩ := HL.out.2 (by rw [u8s_length, ← HL.out.1]; omega)
          have hqL : q < (u8s L).length := by rw [u8s_length, ← HL.out.1]; exact hlq
          have b0 := HS.out.1.bel.cell (lt_of_cell (hc q hqL))
          rw [hc q hqL] at b0
          obtain ⟨y, hy, hy2⟩ : ∃ y : Nat, (u8s L)[q] = .int .u8 (y : Int) ∧ y < 256 := ⟨(L[q]'(by rw [u8s_length] at hqL; exact hqL)).toNat, by simp [u8s], UInt8.toNat_lt _⟩
          rw [hy] at b0
          obtain ⟨x, hx⟩ : ∃ x, y % j = x := ⟨_, rfl⟩
          have hxj : x < j := by rw [← hx]; exact Nat.mod_lt _ (by omega)
          have hrem : (y : Int).tmod (j : Int) = (x : Int) := by rw [← hx]; rfl
          obtain ⟨p, hp, hp64, hpb, hpk, hps, hpg⟩ := M.hpV_parts (K := 1) (s := (x : Int)) (g := 0) ⟨by omega, by omega, by omega, by omega, by omega, by omega⟩
          obtain ⟨gh, rfl, hcell⟩ := hd_cell HS.out.2.1.row (M.hl_at hxj)
          rw [hp] at hcell
          have LV := Lib.hid (M.usd_liv (fl := fl) hxj hpb hpk (by omega) (by omega))
          clear hc hy hx hp hpb hpk hps hpg hqL
          go_wp2_with fail
          by_cases hin : x ∈ fl
          · refine (s_drop HS.out.1 (by omega) p hp64).mono ?_
            rintro _ w3 ⟨rfl, h3, kk3⟩
            rw [LV.out.2 hin]
            rw [show (M.usd13 j fl).dropH 1 z0 p = M.usd13 j fl by unfold M.Tt.dropH; rw [LV.out.2 hin]] at h3
            have H3 := Lib.hid (show _ ∧ _ ∧ _ from ⟨h3, HS.out.2.1.call kk3, HS.out.2.2.call kk3⟩)
            clear h3 kk3 hcell b0 hrem
            go_wp2_with fail
            go_roundw
            case rel => exact ⟨q + 1, n2, c2, A2, _, fl, by omega, by go_num, rfl, by omega, H3⟩
            case measure => simp [intOf]; omega
          · refine (s_drop_some HS.out.1 (by omega) p x hp64 (LV.out.1 hin)).mono ?_
            rintro _ w3 ⟨rfl, h3, kk3⟩
            rw [M.usd_drop hxj hin] at h3
            have B3 := (Below.refl w3.heap.size w3).alloc (Nat.le_refl _) (.cells #[.int .i64 (x : Int)] 3)
            have H3 := Lib.hid (show _ ∧ _ ∧ _ from ⟨h3.below B3, (HS.out.2.1.call kk3).below B3, (HS.out.2.2.call kk3).below B3⟩)
            have LN := Lib.hid (lies_new w3 (.int .i64 (x : Int)) 3)
            have hn6 : n2 ≤ 40 := by omega
            clear h3 kk3 hcell b0 hrem B3
            go_wp2_with (at_builtin; refine app_i rfl _ _ rfl _ w.heap.size A2 n2 c2 (nats fl) rfl H3.out.2.2.row (some ⟨w3.heap.size, 0, none⟩) 1 1 [.int .i64 (x : Int)] rfl rfl LN.out (nats_one [x]) (by omega) H3.out.1.bel.size ?_; intro A' c' w4 hrow hk4 hat; (have H4 := Lib.hid (H3.out.1.app H3.out.2.2 hk4 hrow hat)); (have H5 := Lib.hid (H3.out.2.1.other hk4 (fun x hx => row_apart H3.out.2.1.row H3.out.2.2.row (by decide) hx))); clear hrow hk4 hat)
            go_roundw
            case rel => exact ⟨q + 1, n2 + 1, c', A', _, fl ++ [x], by omega, by go_num, rfl, by omega, Lib.hid ⟨H4.out.1, H5.out, by rw [nats_append]; exact H4.out.2⟩⟩
            case measure => simp [intOf]; omega
        · have hnl := nats_len HS.out.2.2.row
          have HM := Lib.hid (show Std w wr t 1 (M.mid13 j fl n2) Q j ∧ Lst wr 3 w.heap.size A2 n2 c2 (nats fl) Q by rw [hnl, M.mid_all]; exact ⟨HS.out.1, hnl ▸ HS.out.2.2⟩)
          have hnd : fl.Nodup := HS.out.1.ok.nd
          have hfk : ∀ x ∈ fl, x < j := fun x hx => by
            obtain ⟨e, he, _⟩ := HS.out.1.ok.fr x hx
            rw [M.usd_get] at he
            split at he
            · assumption
            · cases he
          have ND := Lib.hid hnd
          have FK := Lib.hid hfk
          have NL := Lib.hid hnl
          have hn40 : n2 ≤ 40 := by omega
          have s1 : wrap64 ((n2 : Int) - 1) = (n2 : Int) - 1 := IntWalk.wrap64_in _ ⟨by omega, by omega⟩
          clear HS hnd hfk hnl hq hn2
          go_wp2_with fail
          clear s1 hlq
          rename_i wo2
          go_loopw [13] (fun i wr => ∃ (r : Nat) (Q : Nat → Prop), r ≤ n2 ∧ i = .int .i64 ((r : Int) - 1) ∧ Hid (Std w wr t 1 (M.mid13 j fl r) Q j ∧ Lst wr 3 w.heap.size A2 n2 c2 (nats fl) Q)) (fun i _ => (intOf i + 1).toNat)
          case atStart => exact ⟨n2, _, by omega, rfl, HM⟩
          case round =>
            clear HM
            obtain ⟨r, Q, hr, rfl, HS⟩ := hrel
            cases r with
            | zero =>
              rw [show (((0 : Nat) : Int) - 1) = -1 from rfl]
              go_wp2_with fail
              obtain ⟨z1, z2, z3, z4⟩ := M.mid_zero j fl
              obtain ⟨p, hp, hp64, hpb, hpk, hps, hpg⟩ := M.hpV_parts (K := 1) (s := (j : Int)) (g := 0) ⟨by omega, by omega, by omega, by omega, by omega, by omega⟩
              have hp' : M.hpV 1 (((M.mid13 j fl 0).at' : Nat) : Int) (((M.mid13 j fl 0).gn : Nat) : Int) = (p : Int) := by rw [z1, z2]; exact hp
              have HP := Lib.hid (show M.huB p = true ∧ M.huK p = 1 ∧ M.huS p = j ∧ M.huG p = 0 by refine ⟨hpb, ?_, ?_, ?_⟩ <;> omega)
              have Z := Lib.hid (And.intro z3 z4)
              clear z1 z2 z3 z4 hp hpb hpk hps hpg
              refine (s_add HS.out.1 (by omega) 9 k1.out).mono ?_
              rintro _ w3 ⟨rfl, h3, _⟩
              rw [hp']
              have H3 := Lib.hid h3
              clear h3 hp'
              go_wp2_with fail
              refine (hunpack_at p 1 j 0 true rfl hp64 HP.out.2.1 HP.out.2.2.1 HP.out.2.2.2 HP.out.1 _).mono ?_
              rintro _ w4 ⟨rfl, b4⟩
              have H4 := Lib.hid (H3.out.below b4)
              clear b4
              go_wp2_with fail
              refine (s_len H4.out (by omega) ((j : Int) + 1) (by rw [Z.out.1, Z.out.2]; omega)).mono ?_
              rintro _ w5 ⟨rfl, b5⟩
              have BB := Lib.hid (below_call H4.out.bel b5)
              clear b5
              go_wp2_with fail
              go_ret
              exact ⟨retB (by simp), BB.out⟩
            | succ r =>
              rw [show (((r + 1 : Nat) : Int) - 1) = (r : Int) by omega]
              obtain ⟨x, hx⟩ : ∃ x, fl[r]? = some x := ⟨_, List.getElem?_eq_getElem (by have := NL.out; omega)⟩
              have hxj : x < j := FK.out x (List.mem_of_getElem? hx)
              obtain ⟨p, hp, hp64, hpb, hpk, hps, hpg⟩ := M.hpV_parts (K := 1) (s := (x : Int)) (g := 1) ⟨by omega, by omega, by omega, by omega, by omega, by omega⟩
              have hp' : M.hpV 1 (((M.mid13 j fl (r + 1)).at' : Nat) : Int) (((M.mid13 j fl (r + 1)).gn : Nat) : Int) = (p : Int) := by rw [M.mid_at hx, M.mid_gn hx hxj]; exact hp
              have HP := Lib.hid (show M.huB p = true ∧ M.huK p = 1 ∧ M.huS p = x ∧ M.huG p = 1 by refine ⟨hpb, ?_, ?_, ?_⟩ <;> omega)
              have HX := Lib.hid hx
              have MP := Lib.hid (M.mid_put hx hxj ND.out)
              clear hp hpb hpk hps hpg hx
              go_wp2_with fail
              refine (s_add HS.out.1 (by omega) 9 k1.out).mono ?_
              rintro _ w3 ⟨rfl, h3, kk3⟩
              rw [hp']
              rw [MP.out] at h3
              have hl3 : (M.mid13 j fl r).s.length ≤ j := by simp [M.mid13]
              have H3 := Lib.hid (show Std w w3 t 1 (M.mid13 j fl r) _ j ∧ _ from ⟨⟨h3.has, h3.ok, h3.bel, hl3⟩, HS.out.2.call kk3⟩)
              clear h3 kk3 hp' hl3
              go_wp2_with fail
              refine (hunpack_at p 1 x 1 true rfl hp64 HP.out.2.1 HP.out.2.2.1 HP.out.2.2.2 HP.out.1 _).mono ?_
              rintro _ w4 ⟨rfl, b4⟩
              have H4 := Lib.hid (show _ ∧ _ from ⟨H3.out.1.below b4, H3.out.2.below b4⟩)
              obtain ⟨g2, rfl, hcell⟩ := nat_cell H4.out.2.row HX.out
              have s1 : wrap64 ((r : Int) - 1) = (r : Int) - 1 := IntWalk.wrap64_in _ ⟨by omega, by omega⟩
              clear b4
              go_wp2_with fail
              go_roundw
              case rel => exact ⟨r, _, by omega, rfl, H4⟩
              case measure => simp [intOf]

/-! The row's step. -/
set_option maxRecDepth 100000 in
theorem lifted (os : Os) (started : os.Started) (H : Type) (enc : TypeId × Value → H) :
    ReturnsInHanded {} Try.checked os 5 .any (Rows.tableReuseSpec.pre6 enc Try.prog Try.f5 Rows.tableReuseRow.domain false) (Rows.tableReuseSpec.post enc Try.prog Try.f5 false true false false) := by
  refine returnsInHanded_of_change (C := Try.checked) own started (by kernel_rfl) Try.func5
    (ChangeSpec.witness6 (enc := enc) (C := Try.checked) false ⟨#[], #[.int .u8 0, .slice none 0 0], []⟩ 8 (by kernel_rfl) (by kernel_rfl) (by kernel_rfl) (by kernel_rfl)) ?_
  intro W base args ds gs before hval0 hW hcnd _
  have hval : ∀ (j : Nat) t v, Try.f5.params[j]? = some t → args[j]? = some v → Value.okWide Try.prog W .any base t v := hval0
  have hW' := hW
  obtain ⟨p, q, hA0, hV, rfl, hfz, hnd⟩ := hW
  have hA : DataW.TrodAll enc Try.prog W 0 (fun _ => true) true Try.f5.params.toList args.toList ds p := hA0
  rw [Try.params5] at hA hval
  obtain ⟨v0, vs0, d0, ds0, p0, q0, hargs, rfl, rfl, h0, r0⟩ := trodAll_cons hA
  obtain ⟨v1, vs1, d1, ds1, p1, q1, rfl, rfl, rfl, h1, r1⟩ := trodAll_cons r0
  obtain ⟨rfl, rfl, rfl⟩ := trodAll_nil r1
  obtain rfl : args = #[v0, v1] := by cases args; simp_all
  obtain ⟨rfl, rfl⟩ := trodVars_none hV
  obtain ⟨a0, rfl, rfl, rfl, w0⟩ := open_int Try.underlying5 (hval 0 5 v0 rfl rfl) h0
  obtain ⟨a1, len1, cap1, rfl⟩ := okWide_slice Try.underlying59 (hval 1 59 v1 rfl rfl)
  have k1 := h1
  have lt1 : ∀ x ∈ p1, x.block < W.heap.size := by obtain ⟨m, hm⟩ := k1; exact DataW.trod_lt m _ _ _ hm
  obtain ⟨z1, w1⟩ : ∃ zs, IsRow .u8 W a1 len1 cap1 zs := by
    obtain ⟨fuel, hf⟩ := h1
    rcases open_ints Try.underlying59 Try.underlying5 (by kernel_rfl) hf with ⟨hcs, _⟩ | ⟨x, l, c, zs, hcs, _, hl, hm, hz, _, hcell, hwz⟩
    · simp [Value.cells] at hcs
      obtain ⟨rfl, rfl, rfl⟩ := hcs
      exact ⟨[], .inl ⟨rfl, rfl, rfl, rfl⟩⟩
    · simp [Value.cells] at hcs
      obtain ⟨rfl, rfl, rfl⟩ := hcs
      exact ⟨zs, .inr ⟨_, rfl, hl, hm, by simpa using hz, hcell, hwz⟩⟩
  clear hA0 hval0
  refine (walk a0 a1 len1 cap1 z1 W w0 w1).mono fun e W' ⟨he, bel⟩ => ?_
  subst he
  exact ⟨_, rfl, _, _, _, [], _, [], hW', trodAll_mk1 (shut_bool Try.underlying4 _), (trodAll_cons_mk (shut_int Try.underlying5 w0) (trodAll_cons_mk (Below.trod laidOut (by kernel_rfl) (of_decide_eq_true (by kernel_rfl)) k1 bel lt1) trodAll_mk0)), rfl, bel.frame _, fun h => by cases h⟩

theorem over : Rows.tableReuseRow.holds Try.pinned (OpenSpec.ofChange Rows.tableReuseSpec) :=
  OpenClaim.holds_of_wide 5 Try.f5 rfl rfl rfl rfl rfl rfl rfl ⟨rfl, rfl, rfl, rfl, rfl⟩ rfl rfl rfl rfl rfl (by kernel_rfl) Try.func5 (by kernel_rfl)
    (of_decide_eq_true (by kernel_rfl)) (by unfold Func.isWrapper; first | (rw [if_pos (by decide +kernel)]; kernel_rfl) | (rw [if_neg (by decide +kernel)]; exact ⟨rfl, rfl⟩))
    (fun os started H enc _ => lifted os started H enc)

/-- The statement. -/
theorem proved : Rows.TableReuseSaid := over
#print axioms proved
end Go.Proofs.Ytbkdlblpoohliaa.tableReuse
