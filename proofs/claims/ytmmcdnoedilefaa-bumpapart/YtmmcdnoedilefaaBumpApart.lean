/-
  BumpApart: what is made one behind the other doesn't overlap, is aligned, lies behind the header and ahead of the end, and sizes, paddings and what is left are all of it; for every input the law returns true, and the arguments read behind the call as they read before. No condition.
-/
import Derived.Test.YtmmcdnoedilefaaRows
import Derived.WalkKit
import Derived.ProofKit
import Derived.OpenShut
import Derived.ShutString
import Derived.ChangeOld
import Derived.Below
import Derived.Test.YtmmcdnoedilefaaA11
import Derived.Test.YtmmcdnoedilefaaL11
namespace Go.Proofs.Ytmmcdnoedilefaa.bumpApart
open Go.ChangeShapes Go.WideShapes Go.ChangeAt Go.RowKit
set_option linter.unusedVariables false

theorem own : ownKnob Try.prog.godebug = none := by kernel_rfl

theorem laidOut : laidOutB Try.prog = true := by kernel_rfl
theorem u16_nat {a : Int} (h : (Lit.int .u16 a).wf = true) : ∃ n : Nat, n < 65536 ∧ a = n := by
  have := bounds_u16 h
  exact ⟨a.toNat, by omega, by omega⟩
def u16s (l : List Nat) : List Value := l.map fun (n : Nat) => .int .u16 (n : Int)
theorem row_u16 {w : World} {a : Option Addr} {len cap : Nat} {zs : List Int} (h : IsRow .u16 w a len cap zs) : ∃ l : List Nat, len = l.length ∧ Lies w a (u16s l) ∧ ∀ n ∈ l, n < 65536 := by
  rcases h with ⟨rfl, rfl, rfl, rfl⟩ | ⟨x, rfl, hl, hm, hz, hc, hw⟩
  · exact ⟨[], rfl, Lies.nil, by simp⟩
  · refine ⟨(zs.take len).map Int.toNat, by simp; omega, fun _ => ⟨x, rfl, fun j hj => ?_⟩, fun n hn => ?_⟩
    · have hj' : j < len := by simp [u16s] at hj; omega
      have hjz : j < zs.length := by omega
      rw [hc j hjz]
      obtain ⟨n, hn, e⟩ := u16_nat (hw zs[j] (List.getElem_mem _))
      simp [u16s, List.getD, List.getElem?_eq_getElem hjz, e]
    · simp only [List.mem_map] at hn
      obtain ⟨z, hz1, rfl⟩ := hn
      obtain ⟨n, hn, e⟩ := u16_nat (hw z (List.mem_of_mem_take hz1))
      omega
set_option maxRecDepth 20000

/-! The walk. -/
set_option maxRecDepth 20000 in
set_option maxHeartbeats 4000000 in
theorem walk (a0 : Int) (a1 : Int) (a2 : Option Addr) (len2 cap2 : Nat) (z2 : List Int) (a3 : Option Addr) (len3 cap3 : Nat) (z3 : List Int) (w : World) (w0 : (Lit.int .u8 a0).wf = true) (w1 : (Lit.int .u8 a1).wf = true) (w2 : IsRow .u16 w a2 len2 cap2 z2) (w3 : IsRow .u8 w a3 len3 cap3 z3) :
    Calls Try.prog 5 #[.int .u8 a0, .int .u8 a1, .slice a2 len2 cap2, .slice a3 len3 cap3] w fun e w' => e = .returned (.bool true) ∧ Below w.heap.size w w' := by
  obtain ⟨pg, hpg, rfl⟩ := u8_nat w0
  obtain ⟨n, hn, rfl⟩ := u8_nat w1
  obtain ⟨xs, hxl, hlx, hx16⟩ := row_u16 w2
  obtain ⟨ys, hyl, hly⟩ := row_u8 w3
  clear w0 w1 w2 w3
  have HX := Lib.hid (And.intro hxl (And.intro hlx hx16))
  have HY := Lib.hid (And.intro hyl hly)
  clear hxl hlx hx16 hyl hly
  by_cases h60 : 60 < len2
  · have d1 : decide ((60 : Int) < (len2 : Int)) = true := by simp; omega
    clear h60
    go_enter Try.func5, Try.ntmps5
    go_wp2_with fail
    refine (awake_any _).mono ?_
    rintro e w1 ⟨rfl, b1⟩
    go_wp2_with fail
    go_ret
    exact ⟨rfl, b1⟩
  have d1 : decide ((60 : Int) < (len2 : Int)) = false := by simp; omega
  by_cases h0 : len3 = 0
  · subst h0
    clear h60
    go_enter Try.func5, Try.ntmps5
    go_wp2_with fail
    refine (awake_any _).mono ?_
    rintro e w1 ⟨rfl, b1⟩
    go_wp2_with fail
    go_ret
    exact ⟨rfl, b1⟩
  have d2 : ((len3 : Int) == 0) = false := by simp; omega
  by_cases h61 : 60 < len3
  · have d3 : decide ((60 : Int) < (len3 : Int)) = true := by simp; omega
    clear h60 h0 h61
    go_enter Try.func5, Try.ntmps5
    go_wp2_with fail
    refine (awake_any _).mono ?_
    rintro e w1 ⟨rfl, b1⟩
    go_wp2_with fail
    go_ret
    exact ⟨rfl, b1⟩
  have d3 : decide ((60 : Int) < (len3 : Int)) = false := by simp; omega
  have h3p : 0 < len3 := by omega
  have h2p : len2 ≤ 60 := by omega
  obtain ⟨F, hF⟩ : ∃ F, F = pg * 4096 + 32 := ⟨_, rfl⟩
  obtain ⟨E, hE⟩ : ∃ E, E = (pg + (n + 1)) * 4096 := ⟨_, rfl⟩
  have hFE : F ≤ E := by omega
  have hEb : E ≤ 2093056 := by omega
  have f1 : (pg : Int) * 4096 + 32 = (F : Int) := by omega
  have f2 : ((pg : Int) + ((n : Int) + 1)) * 4096 = (E : Int) := by omega
  have OB : M.ofB (pg : Int) ((n : Int) + 1) = true := by
    unfold M.ofB; rw [decide_eq_true (by omega), decide_eq_true (by omega), decide_eq_true (by omega)]; rfl
  have OA := Lib.hid (show M.ofA (pg : Int) ((n : Int) + 1) = (F : Int) by unfold M.ofA; rw [if_pos OB]; omega)
  have OE := Lib.hid (show M.ofE (pg : Int) ((n : Int) + 1) = (E : Int) by unfold M.ofE; rw [if_pos OB]; omega)
  have HF := Lib.hid (And.intro hF hE)
  clear hF hE OB h60 h0 h61
  go_enter Try.func5, Try.ntmps5
  go_wp2_with fail
  refine (awake_any _).mono ?_
  rintro e w1 ⟨rfl, b1⟩
  go_wp2_with fail
  refine (of_at (pg : Int) ((n : Int) + 1) F E rfl rfl (by omega) (by omega) (by omega) (by omega) OA.out OE.out _).mono ?_
  rintro e w2 ⟨rfl, b2⟩
  have X := Box2.new w2 25 (.int .u64 F) (.int .u64 E)
  have B := below_call (below_call b1 b2) (below_new2 w2 (.cells #[.int .u64 F, .int .u64 E] 25))
  have hg : w.heap.size ≤ w2.heap.size := (below_call b1 b2).size
  go_upto_region 8 with fail
  generalize w2.alloc (.cells #[.int .u64 F, .int .u64 E] 25) = w3 at *
  generalize w2.heap.size = g at *
  have HG := Lib.hid hg
  have HXB := Lib.hid (And.intro X B)
  clear d1 d2 d3 b1 b2 X B hg
  go_wp2_with fail
  clear f1 f2
  go_loopw [14, 15, 16, 17, 18, 19, 20, 21, 22] (fun sum last i _ _ _ _ _ _ wr => ∃ k L S : Nat, k ≤ len2 ∧ F ≤ L ∧ L ≤ E ∧ S + F = L ∧ i = .int .i64 k ∧ last = .int .u64 L ∧ sum = .int .u64 S ∧ Box2 wr g (.int .u64 L) (.int .u64 E) ∧ Below w.heap.size w wr) (fun _ _ i _ _ _ _ _ _ _ => len2 - (intOf i).toNat)
  case atStart => exact ⟨0, F, 0, by omega, by omega, hFE, by omega, rfl, rfl, rfl, HXB.out.1, HXB.out.2⟩
  case round =>
    obtain ⟨k, L, S, hk, hFL, hLE, hS, rfl, rfl, rfl, hX, hB⟩ := hrel
    clear HXB
    by_cases hlt : k < len2
    · obtain ⟨ad, rfl, hc⟩ := (HX.out.2.1.below hB) (by have := HX.out.1; simp only [u16s, List.length_map]; omega)
      have hkl : k < xs.length := by have := HX.out.1; omega
      have hck := hc k (by simp only [u16s, List.length_map]; exact hkl)
      simp only [u16s, List.getElem_map] at hck
      obtain ⟨x, hx⟩ : ∃ x, x = xs[k]'hkl := ⟨_, rfl⟩
      rw [← hx] at hck
      have hx16 : x < 65536 := by rw [hx]; exact HX.out.2.2 _ (List.getElem_mem _)
      obtain ⟨ad3, rfl, hc3⟩ := (HY.out.2.below hB) (by have := HY.out.1; rw [u8s_length]; omega)
      obtain ⟨m, hm⟩ : ∃ m, m = k % len3 := ⟨_, rfl⟩
      have hml : m < len3 := by rw [hm]; exact Nat.mod_lt _ (by omega)
      have hmy : m < ys.length := by have := HY.out.1; omega
      have hcm := hc3 m (by rw [u8s_length]; exact hmy)
      simp only [u8s, List.getElem_map] at hcm
      obtain ⟨y, hy⟩ : ∃ y, y = (ys[m]'hmy).toNat := ⟨_, rfl⟩
      rw [← hy] at hcm
      have hy8 : y < 256 := by rw [hy]; exact UInt8.toNat_lt _
      have em : (k : Int) % (len3 : Int) = (m : Int) := by omega
      have z3 : ((len3 : Int) == 0) = false := by simp; omega
      obtain ⟨a, ea, pa, la, a0⟩ := shifted13 y
      have HK := Lib.hid hm
      have HB := Lib.hid hB
      have HXL := Lib.hid hX
      have c0 := hX.c0
      have c1 := hX.c1
      clear hx hy hc hc3 hB hX hm
      have hgr : g < wr.heap.size := HXL.out.lt
      cases hb : M.fitB L E (x + 1) a with
      | false =>
        have hno := M.apart_no L E (x + 1) a (by omega) pa (by omega) (by omega) hb
        have z4 : decide ((L : Int) + ((x : Int) + 1) + (a : Int) ≤ (E : Int)) = false := decide_eq_false (by omega)
        obtain ⟨o, ho⟩ : ∃ o, o = 0 := ⟨0, rfl⟩
        obtain ⟨g1, g2, g3, g4⟩ := M.fit_no _ _ _ _ hb
        rw [← ho] at g1 g2 g3 g4
        have HN := Lib.hid (And.intro g1 (And.intro g2 (And.intro g3 (And.intro g4 hb))))
        clear g1 g2 g3 g4 hb ho pa hno
        go_wp2_with fail
        refine (fit_at L E (x + 1) a o o o o false rfl rfl (by omega) rfl (by omega) (by omega) (by omega) (by omega) HN.out.1 HN.out.2.1 HN.out.2.2.1 HN.out.2.2.2.1 HN.out.2.2.2.2 _).mono ?_
        rintro e w4 ⟨rfl, b4⟩
        have HR := Lib.hid (fun ob => And.intro ((HXL.out.below b4).below (below_new2 w4 ob)) (below_call (below_call HB.out b4) (below_new2 w4 ob)))
        clear b4 c0 c1 hck hcm
        go_wp2_with fail
        go_roundw
        case rel => exact ⟨k + 1, L, S, by omega, hFL, hLE, hS, by go_num, rfl, rfl, (HR.out _).1, (HR.out _).2⟩
        case measure => simp [intOf]; omega
      | true =>
        obtain ⟨s, q, p, g1, g2, g3, g4, h1, h2, h3, h4, h5⟩ := M.apart_yes L E (x + 1) a (by omega) hb
        have e1 : ((s : Int) % (a : Int) != 0) = false := by simp; omega
        have e1' : ((s : Int) % (a : Int) == 0) = true := by simp; omega
        have e2 : decide (s < L) = false := decide_eq_false (by omega)
        have e3 : decide (a ≤ p) = false := decide_eq_false (by omega)
        have e4 : ((s : Int) != (L : Int) + (p : Int)) = false := by simp; omega
        have e5 : decide ((E : Int) < (s : Int) + ((x : Int) + 1)) = false := decide_eq_false (by omega)
        have e6 : ((q : Int) != (s : Int) + ((x : Int) + 1)) = false := by simp; omega
        have HN := Lib.hid (And.intro g1 (And.intro g2 (And.intro g3 (And.intro g4 (And.intro hb (And.intro h3 h4))))))
        have hs1 : s ≤ 2093056 := by omega
        have hp1 : p ≤ 4096 := by omega
        clear g1 g2 g3 g4 hb pa h1 h2 h3 h4
        go_wp2_with fail
        refine (fit_at L E (x + 1) a s q E p true rfl rfl (by omega) rfl (by omega) (by omega) (by omega) (by omega) HN.out.1 HN.out.2.1 HN.out.2.2.1 HN.out.2.2.2.1 HN.out.2.2.2.2.1 _).mono ?_
        rintro e w4 ⟨rfl, b4⟩
        have X4 := (HXL.out.below b4).below (below_new2 w4 (.cells #[.int .u64 q, .int .u64 E] 25))
        have Y4 := Box2.new w4 25 (.int .u64 q) (.int .u64 E)
        have B4 := below_call (below_call HB.out b4) (below_new2 w4 (.cells #[.int .u64 q, .int .u64 E] 25))
        clear b4 c0 c1 hck hcm
        go_upto_region 18 with fail
        generalize w4.alloc (.cells #[.int .u64 q, .int .u64 E] 25) = w5 at *
        generalize w4.heap.size = g4 at *
        have c0 := X4.c0
        have c1 := X4.c1
        have cf := X4.fz
        have d0 := Y4.c0
        have d1 := Y4.c1
        have HR := Lib.hid (And.intro (X4.set (.int .u64 q) (.int .u64 E)) (below_set2 B4 (g := g) HG.out (.int .u64 q) (.int .u64 E)))
        clear X4 Y4 B4
        go_wp2_with fail
        go_roundw
        case rel => exact ⟨k + 1, q, S + (x + 1 + p), by omega, by have := HN.out.2.2.2.2.2; omega, h5, by have := HN.out.2.2.2.2.2; omega, by go_num, by have := HN.out.2.2.2.2.2; go_num, by go_num, HR.out.1, HR.out.2⟩
        case measure => simp [intOf]; omega
    · have e : k = len2 := by omega
      have c0 := hX.c0
      have c1 := hX.c1
      have HB := Lib.hid hB
      clear hX hB e
      go_wp2_with fail
      refine (left_at L E (E - L) rfl rfl (by omega) (by omega) rfl _).mono ?_
      rintro e w4 ⟨rfl, b4⟩
      go_wp2_with fail
      go_ret
      exact ⟨retB (by simp; omega), below_call HB.out b4⟩

/-! The row's step. -/
set_option maxRecDepth 100000 in
theorem lifted (os : Os) (started : os.Started) (H : Type) (enc : TypeId × Value → H) :
    ReturnsInHanded {} Try.checked os 5 .any (Rows.bumpApartSpec.pre6 enc Try.prog Try.f5 Rows.bumpApartRow.domain false) (Rows.bumpApartSpec.post enc Try.prog Try.f5 false true false false) := by
  refine returnsInHanded_of_change (C := Try.checked) own started (by kernel_rfl) Try.func5
    (ChangeSpec.witness6 (enc := enc) (C := Try.checked) false ⟨#[], #[.int .u8 0, .int .u8 0, .slice none 0 0, .slice none 0 0], []⟩ 8 (by kernel_rfl) (by kernel_rfl) (by kernel_rfl) (by kernel_rfl)) ?_
  intro W base args ds gs before hval0 hW hcnd _
  have hval : ∀ (j : Nat) t v, Try.f5.params[j]? = some t → args[j]? = some v → Value.okWide Try.prog W .any base t v := hval0
  have hW' := hW
  obtain ⟨p, q, hA0, hV, rfl, hfz, hnd⟩ := hW
  have hA : DataW.TrodAll enc Try.prog W 0 (fun _ => true) true Try.f5.params.toList args.toList ds p := hA0
  rw [Try.params5] at hA hval
  obtain ⟨v0, vs0, d0, ds0, p0, q0, hargs, rfl, rfl, h0, r0⟩ := trodAll_cons hA
  obtain ⟨v1, vs1, d1, ds1, p1, q1, rfl, rfl, rfl, h1, r1⟩ := trodAll_cons r0
  obtain ⟨v2, vs2, d2, ds2, p2, q2, rfl, rfl, rfl, h2, r2⟩ := trodAll_cons r1
  obtain ⟨v3, vs3, d3, ds3, p3, q3, rfl, rfl, rfl, h3, r3⟩ := trodAll_cons r2
  obtain ⟨rfl, rfl, rfl⟩ := trodAll_nil r3
  obtain rfl : args = #[v0, v1, v2, v3] := by cases args; simp_all
  obtain ⟨rfl, rfl⟩ := trodVars_none hV
  obtain ⟨a0, rfl, rfl, rfl, w0⟩ := open_int Try.underlying5 (hval 0 5 v0 rfl rfl) h0
  obtain ⟨a1, rfl, rfl, rfl, w1⟩ := open_int Try.underlying5 (hval 1 5 v1 rfl rfl) h1
  obtain ⟨a2, len2, cap2, rfl⟩ := okWide_slice Try.underlying37 (hval 2 37 v2 rfl rfl)
  have k2 := h2
  have lt2 : ∀ x ∈ p2, x.block < W.heap.size := by obtain ⟨m, hm⟩ := k2; exact DataW.trod_lt m _ _ _ hm
  obtain ⟨z2, w2⟩ : ∃ zs, IsRow .u16 W a2 len2 cap2 zs := by
    obtain ⟨fuel, hf⟩ := h2
    rcases open_ints Try.underlying37 Try.underlying39 (by kernel_rfl) hf with ⟨hcs, _⟩ | ⟨x, l, c, zs, hcs, _, hl, hm, hz, _, hcell, hwz⟩
    · simp [Value.cells] at hcs
      obtain ⟨rfl, rfl, rfl⟩ := hcs
      exact ⟨[], .inl ⟨rfl, rfl, rfl, rfl⟩⟩
    · simp [Value.cells] at hcs
      obtain ⟨rfl, rfl, rfl⟩ := hcs
      exact ⟨zs, .inr ⟨_, rfl, hl, hm, by simpa using hz, hcell, hwz⟩⟩
  obtain ⟨a3, len3, cap3, rfl⟩ := okWide_slice Try.underlying38 (hval 3 38 v3 rfl rfl)
  have k3 := h3
  have lt3 : ∀ x ∈ p3, x.block < W.heap.size := by obtain ⟨m, hm⟩ := k3; exact DataW.trod_lt m _ _ _ hm
  obtain ⟨z3, w3⟩ : ∃ zs, IsRow .u8 W a3 len3 cap3 zs := by
    obtain ⟨fuel, hf⟩ := h3
    rcases open_ints Try.underlying38 Try.underlying5 (by kernel_rfl) hf with ⟨hcs, _⟩ | ⟨x, l, c, zs, hcs, _, hl, hm, hz, _, hcell, hwz⟩
    · simp [Value.cells] at hcs
      obtain ⟨rfl, rfl, rfl⟩ := hcs
      exact ⟨[], .inl ⟨rfl, rfl, rfl, rfl⟩⟩
    · simp [Value.cells] at hcs
      obtain ⟨rfl, rfl, rfl⟩ := hcs
      exact ⟨zs, .inr ⟨_, rfl, hl, hm, by simpa using hz, hcell, hwz⟩⟩
  clear hA0 hval0
  refine (walk a0 a1 a2 len2 cap2 z2 a3 len3 cap3 z3 W w0 w1 w2 w3).mono fun e W' ⟨he, bel⟩ => ?_
  subst he
  exact ⟨_, rfl, _, _, _, [], _, [], hW', trodAll_mk1 (shut_bool Try.underlying4 _), (trodAll_cons_mk (shut_int Try.underlying5 w0) (trodAll_cons_mk (shut_int Try.underlying5 w1) (trodAll_cons_mk (Below.trod laidOut (by kernel_rfl) (of_decide_eq_true (by kernel_rfl)) k2 bel lt2) (trodAll_cons_mk (Below.trod laidOut (by kernel_rfl) (of_decide_eq_true (by kernel_rfl)) k3 bel lt3) trodAll_mk0)))), rfl, bel.frame _, fun h => by cases h⟩

theorem over : Rows.bumpApartRow.holds Try.pinned (OpenSpec.ofChange Rows.bumpApartSpec) :=
  OpenClaim.holds_of_wide 5 Try.f5 rfl rfl rfl rfl rfl rfl rfl ⟨rfl, rfl, rfl, rfl, rfl⟩ rfl rfl rfl rfl rfl (by kernel_rfl) Try.func5 (by kernel_rfl)
    (of_decide_eq_true (by kernel_rfl)) (by unfold Func.isWrapper; first | (rw [if_pos (by decide +kernel)]; kernel_rfl) | (rw [if_neg (by decide +kernel)]; exact ⟨rfl, rfl⟩))
    (fun os started H enc _ => lifted os started H enc)

/-- The statement. -/
theorem proved : Rows.BumpApartSaid := over
#print axioms proved
end Go.Proofs.Ytmmcdnoedilefaa.bumpApart
