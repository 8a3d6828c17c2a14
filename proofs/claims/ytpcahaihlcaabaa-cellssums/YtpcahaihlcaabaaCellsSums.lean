/-
  CellsSums is true whatever the input: what is added one by one is the sum, which goes round by the width, and each answer is the sum so far; no conditions.
-/
import Derived.Test.YtpcahaihlcaabaaRows
import Derived.WalkKit
import Derived.ProofKit
import Derived.OpenShut
import Derived.ShutString
import Derived.ChangeOld
import Derived.Below
import Derived.Test.YtpcahaihlcaabaaEx4
namespace Go.Proofs.Ytpcahaihlcaabaa.cellsSums
open Go.ChangeShapes Go.WideShapes Go.ChangeAt Go.RowKit
set_option linter.unusedVariables false

theorem own : ownKnob Try.prog.godebug = none := by kernel_rfl

/-- What stands behind some rounds. -/
structure Sums (w0 w : World) (s a k : Nat) (l : List Nat) (j sum : Nat) (T : Nat) (f : Nat → UInt8) (O : Nat → Prop) : Prop where
  le : j ≤ l.length
  lt : sum < 18446744073709551616
  at' : At w0 w s 32 T f O
  tk : T ≤ 2 * j
  num : M.num (M.rd f a k) = sum % 256 ^ k
  far : M.num (M.rd f (a + 8) 8) = 0
theorem sums_start {w0 w : World} {s a k : Nat} {l : List Nat} {O : Nat → Prop} (h : At w0 w s 32 0 (fun _ => 0) O) : Sums w0 w s a k l 0 0 0 (fun _ => 0) O := by
  have hz : ∀ b n, M.num (M.rd (fun _ => 0) b n) = 0 := fun b n => by
    induction n generalizing b with
    | zero => rfl
    | succ n ih => rw [show n + 1 = 1 + n by omega, M.rd_add, M.num_append, ih]; simp [M.rd, M.num]
  exact ⟨Nat.zero_le _, by omega, h, by omega, by rw [hz]; simp, hz _ _⟩
theorem sums_step {w0 w w' : World} {s a k : Nat} {l : List Nat} {j sum T : Nat} {f : Nat → UInt8} {O O' : Nat → Prop} (hk : k = 1 ∨ k = 2 ∨ k = 4 ∨ k = 8) (h : Sums w0 w s a k l j sum T f O) (hj : j < l.length) (v sm : Nat) (hv : v = M.num (M.rd f a k)) (hs : sm = (sum + l[j]) % 18446744073709551616)
    (A : At w0 w' s 32 (T + 2) (M.wr f a (M.enc k (v + l[j]))) O') : Sums w0 w' s a k l (j + 1) sm (T + 2) (M.wr f a (M.enc k (v + l[j]))) O' := by
  have hk8 : k ≤ 8 := by omega
  refine ⟨hj, by rw [hs]; exact Nat.mod_lt _ (by omega), A, by have := h.tk; omega, ?_, ?_⟩
  · rw [num_wr, hs, pow64 hk, hv, h.num, Nat.mod_add_mod]
  · rw [M.rd_wr_apart _ _ _ _ _ (Or.inr (by rw [M.enc_length]; omega))]
    exact h.far

/-! The walk. -/
set_option maxRecDepth 20000 in
set_option maxHeartbeats 2000000 in
theorem walk (a0 : Int) (a1 : Int) (a2 : Option Addr) (len2 cap2 : Nat) (z2 : List Int) (w : World) (w0 : (Lit.int .u16 a0).wf = true) (w1 : (Lit.int .u8 a1).wf = true) (w2 : IsRow .u64 w a2 len2 cap2 z2) :
    Calls Try.prog 5 #[.int .u16 a0, .int .u8 a1, .slice a2 len2 cap2] w fun e w' => e = .returned (.bool true) ∧ Below w.heap.size w w' := by
  obtain ⟨at', hat, rfl⟩ := u16_nat w0
  obtain ⟨kk, hkk, rfl⟩ := u8_nat w1
  obtain ⟨l, hln, hlies, hl64⟩ := row_u64 w2
  clear w0 w1 w2
  obtain ⟨a, ha⟩ : ∃ a, a = at' / 8 * 8 := ⟨_, rfl⟩
  have hA : (at' : Int) / 8 * 8 = (a : Int) := by omega
  have ha8 : a % 8 = 0 := by omega
  have ha9 : a < 65536 := by omega
  clear ha
  have HL := Lib.hid (And.intro hln (And.intro hlies hl64))
  clear hlies hl64 hln
  by_cases h100 : 100 < len2
  · have d1 : decide ((100 : Int) < (len2 : Int)) = true := by simp; omega
    clear h100
    go_enter Try.func5, Try.ntmps5
    go_wp2_with fail
    refine (awake_any _).mono ?_
    rintro e w1 ⟨rfl, b1⟩
    go_wp2_with fail
    go_ret
    exact ⟨rfl, b1⟩
  have d1 : decide ((100 : Int) < (len2 : Int)) = false := by simp; omega
  have h99 : len2 ≤ 100 := by omega
  clear h100
  rcases (show kk % 4 = 0 ∨ kk % 4 = 1 ∨ kk % 4 = 2 ∨ kk % 4 = 3 by omega) with hr | hr | hr | hr
  · have hm : (kk : Int) % 4 = 0 := by omega
    clear hr
    go_enter Try.func5, Try.ntmps5
    go_wp2_with fail
    refine (awake_any _).mono ?_
    rintro e w1 ⟨rfl, b1⟩
    have B1 := Lib.hid b1
    clear b1
    go_wp2_with fail
    refine (at_new (w0 := w) B1.out _ 32 (by decide)).mono ?_
    rintro e w2 ⟨s, O2, rfl, A2⟩
    have H2 := Lib.hid A2
    clear A2 d1
    go_wp2_with fail
    clear hm hA
    go_loopw [11, 12] (fun x i wr => ∃ (j sum T : Nat) (f : Nat → UInt8) (O : Nat → Prop), x = .int .u64 sum ∧ i = .int .i64 j ∧ Sums w wr s a 1 l j sum T f O) (fun _ i _ => len2 - (intOf i).toNat)
    case atStart => exact ⟨0, 0, 0, _, _, rfl, rfl, sums_start H2.out⟩
    case round =>
      obtain ⟨j, sum, T, f, O, rfl, rfl, hS⟩ := hrel
      have HS := Lib.hid hS
      have hjl := hS.le
      have hT := hS.tk
      have hsum := hS.lt
      have hlen := HL.out.1
      clear hS H2
      by_cases hlt : j < len2
      · obtain ⟨ad, rfl, hc⟩ := (HL.out.2.1.keep fun p hp => HS.out.at'.bel.cell hp) (by rw [u64s_length]; omega)
        have hcj := hc j (by rw [u64s_length]; omega)
        simp only [u64s, List.getElem_map] at hcj
        have hjl' : j < l.length := by omega
        obtain ⟨q, hq⟩ : ∃ q, q = l[j]'hjl' := ⟨_, rfl⟩
        rw [← hq] at hcj
        have hq64 : q < 18446744073709551616 := by rw [hq]; exact HL.out.2.2 _ (List.getElem_mem _)
        have hadl : ad.block < w.heap.size := by
          obtain ⟨ad', e', hc'⟩ := HL.out.2.1 (by rw [u64s_length]; omega)
          injection e' with e'
          have := lt_of_cell (hc' 0 (by rw [u64s_length]; omega))
          rw [block_of_add, ← e'] at this
          exact this
        have hnO : ¬ O ad.block := fun e => by have := HS.out.at'.old _ e; omega
        obtain ⟨v, hv⟩ : ∃ v, v = M.num (M.rd f a 1) := ⟨_, rfl⟩
        have hvs : v = sum % 256 := by rw [hv, HS.out.num]
        have q1 : ((v : Int) != (sum : Int) % 256) = false := by simp; omega
        have HQ := Lib.hid (And.intro hq (And.intro hv (And.intro hvs (And.intro hlen (And.intro hadl hnO)))))
        clear hc hq hv hvs hlen hnO hadl
        go_wp2_with fail
        refine (at_add HS.out.at' a 1 q (by omega) (by omega) (by omega) hq64 (by omega)).mono ?_
        rw [← HQ.out.2.1]
        rintro e w3 ⟨rfl, A3, k3⟩
        have hcj3 : w3.cell? (ad.add j) = some (.int .u64 (q : Int)) := k3.cell_some hcj (by rw [block_of_add]; exact HQ.out.2.2.2.2.2)
        have HA := Lib.hid (And.intro A3 k3)
        clear A3 k3 hcj
        go_wp2_with fail
        go_roundw
        case rel =>
          refine ⟨j + 1, (sum + q) % 18446744073709551616, _, _, _, ?_, by go_num, sums_step (by omega) HS.out hjl' v _ HQ.out.2.1 (by rw [HQ.out.1]) (by rw [← HQ.out.1]; exact HA.out.1)⟩
          rw [wrapU]
          congr 1
        case measure => simp [intOf]; omega
      · obtain rfl : j = len2 := by omega
        clear hlt
        go_wp2_with fail
        refine (at_get HS.out.at' (a + 8) 8 (by omega) (by omega) (by omega) (by omega)).mono ?_
        rw [HS.out.far]
        rintro e w3 ⟨rfl, A3, k3⟩
        have HA := Lib.hid A3
        clear A3 k3
        go_wp2_with fail
        go_ret
        exact ⟨rfl, HA.out.bel⟩
  · have hm : (kk : Int) % 4 = 1 := by omega
    clear hr
    go_enter Try.func5, Try.ntmps5
    go_wp2_with fail
    refine (awake_any _).mono ?_
    rintro e w1 ⟨rfl, b1⟩
    have B1 := Lib.hid b1
    clear b1
    go_wp2_with fail
    refine (at_new (w0 := w) B1.out _ 32 (by decide)).mono ?_
    rintro e w2 ⟨s, O2, rfl, A2⟩
    have H2 := Lib.hid A2
    clear A2 d1
    go_wp2_with fail
    clear hm hA
    go_loopw [11, 12] (fun x i wr => ∃ (j sum T : Nat) (f : Nat → UInt8) (O : Nat → Prop), x = .int .u64 sum ∧ i = .int .i64 j ∧ Sums w wr s a 2 l j sum T f O) (fun _ i _ => len2 - (intOf i).toNat)
    case atStart => exact ⟨0, 0, 0, _, _, rfl, rfl, sums_start H2.out⟩
    case round =>
      obtain ⟨j, sum, T, f, O, rfl, rfl, hS⟩ := hrel
      have HS := Lib.hid hS
      have hjl := hS.le
      have hT := hS.tk
      have hsum := hS.lt
      have hlen := HL.out.1
      clear hS H2
      by_cases hlt : j < len2
      · obtain ⟨ad, rfl, hc⟩ := (HL.out.2.1.keep fun p hp => HS.out.at'.bel.cell hp) (by rw [u64s_length]; omega)
        have hcj := hc j (by rw [u64s_length]; omega)
        simp only [u64s, List.getElem_map] at hcj
        have hjl' : j < l.length := by omega
        obtain ⟨q, hq⟩ : ∃ q, q = l[j]'hjl' := ⟨_, rfl⟩
        rw [← hq] at hcj
        have hq64 : q < 18446744073709551616 := by rw [hq]; exact HL.out.2.2 _ (List.getElem_mem _)
        have hadl : ad.block < w.heap.size := by
          obtain ⟨ad', e', hc'⟩ := HL.out.2.1 (by rw [u64s_length]; omega)
          injection e' with e'
          have := lt_of_cell (hc' 0 (by rw [u64s_length]; omega))
          rw [block_of_add, ← e'] at this
          exact this
        have hnO : ¬ O ad.block := fun e => by have := HS.out.at'.old _ e; omega
        obtain ⟨v, hv⟩ : ∃ v, v = M.num (M.rd f a 2) := ⟨_, rfl⟩
        have hvs : v = sum % 65536 := by rw [hv, HS.out.num]
        have q1 : ((v : Int) != (sum : Int) % 65536) = false := by simp; omega
        have HQ := Lib.hid (And.intro hq (And.intro hv (And.intro hvs (And.intro hlen (And.intro hadl hnO)))))
        clear hc hq hv hvs hlen hnO hadl
        go_wp2_with fail
        refine (at_add HS.out.at' a 2 q (by omega) (by omega) (by omega) hq64 (by omega)).mono ?_
        rw [← HQ.out.2.1]
        rintro e w3 ⟨rfl, A3, k3⟩
        have hcj3 : w3.cell? (ad.add j) = some (.int .u64 (q : Int)) := k3.cell_some hcj (by rw [block_of_add]; exact HQ.out.2.2.2.2.2)
        have HA := Lib.hid (And.intro A3 k3)
        clear A3 k3 hcj
        go_wp2_with fail
        go_roundw
        case rel =>
          refine ⟨j + 1, (sum + q) % 18446744073709551616, _, _, _, ?_, by go_num, sums_step (by omega) HS.out hjl' v _ HQ.out.2.1 (by rw [HQ.out.1]) (by rw [← HQ.out.1]; exact HA.out.1)⟩
          rw [wrapU]
          congr 1
        case measure => simp [intOf]; omega
      · obtain rfl : j = len2 := by omega
        clear hlt
        go_wp2_with fail
        refine (at_get HS.out.at' (a + 8) 8 (by omega) (by omega) (by omega) (by omega)).mono ?_
        rw [HS.out.far]
        rintro e w3 ⟨rfl, A3, k3⟩
        have HA := Lib.hid A3
        clear A3 k3
        go_wp2_with fail
        go_ret
        exact ⟨rfl, HA.out.bel⟩
  · have hm : (kk : Int) % 4 = 2 := by omega
    clear hr
    go_enter Try.func5, Try.ntmps5
    go_wp2_with fail
    refine (awake_any _).mono ?_
    rintro e w1 ⟨rfl, b1⟩
    have B1 := Lib.hid b1
    clear b1
    go_wp2_with fail
    refine (at_new (w0 := w) B1.out _ 32 (by decide)).mono ?_
    rintro e w2 ⟨s, O2, rfl, A2⟩
    have H2 := Lib.hid A2
    clear A2 d1
    go_wp2_with fail
    clear hm hA
    go_loopw [11, 12] (fun x i wr => ∃ (j sum T : Nat) (f : Nat → UInt8) (O : Nat → Prop), x = .int .u64 sum ∧ i = .int .i64 j ∧ Sums w wr s a 4 l j sum T f O) (fun _ i _ => len2 - (intOf i).toNat)
    case atStart => exact ⟨0, 0, 0, _, _, rfl, rfl, sums_start H2.out⟩
    case round =>
      obtain ⟨j, sum, T, f, O, rfl, rfl, hS⟩ := hrel
      have HS := Lib.hid hS
      have hjl := hS.le
      have hT := hS.tk
      have hsum := hS.lt
      have hlen := HL.out.1
      clear hS H2
      by_cases hlt : j < len2
      · obtain ⟨ad, rfl, hc⟩ := (HL.out.2.1.keep fun p hp => HS.out.at'.bel.cell hp) (by rw [u64s_length]; omega)
        have hcj := hc j (by rw [u64s_length]; omega)
        simp only [u64s, List.getElem_map] at hcj
        have hjl' : j < l.length := by omega
        obtain ⟨q, hq⟩ : ∃ q, q = l[j]'hjl' := ⟨_, rfl⟩
        rw [← hq] at hcj
        have hq64 : q < 18446744073709551616 := by rw [hq]; exact HL.out.2.2 _ (List.getElem_mem _)
        have hadl : ad.block < w.heap.size := by
          obtain ⟨ad', e', hc'⟩ := HL.out.2.1 (by rw [u64s_length]; omega)
          injection e' with e'
          have := lt_of_cell (hc' 0 (by rw [u64s_length]; omega))
          rw [block_of_add, ← e'] at this
          exact this
        have hnO : ¬ O ad.block := fun e => by have := HS.out.at'.old _ e; omega
        obtain ⟨v, hv⟩ : ∃ v, v = M.num (M.rd f a 4) := ⟨_, rfl⟩
        have hvs : v = sum % 4294967296 := by rw [hv, HS.out.num]
        have q1 : ((v : Int) != (sum : Int) % 4294967296) = false := by simp; omega
        have HQ := Lib.hid (And.intro hq (And.intro hv (And.intro hvs (And.intro hlen (And.intro hadl hnO)))))
        clear hc hq hv hvs hlen hnO hadl
        go_wp2_with fail
        refine (at_add HS.out.at' a 4 q (by omega) (by omega) (by omega) hq64 (by omega)).mono ?_
        rw [← HQ.out.2.1]
        rintro e w3 ⟨rfl, A3, k3⟩
        have hcj3 : w3.cell? (ad.add j) = some (.int .u64 (q : Int)) := k3.cell_some hcj (by rw [block_of_add]; exact HQ.out.2.2.2.2.2)
        have HA := Lib.hid (And.intro A3 k3)
        clear A3 k3 hcj
        go_wp2_with fail
        go_roundw
        case rel =>
          refine ⟨j + 1, (sum + q) % 18446744073709551616, _, _, _, ?_, by go_num, sums_step (by omega) HS.out hjl' v _ HQ.out.2.1 (by rw [HQ.out.1]) (by rw [← HQ.out.1]; exact HA.out.1)⟩
          rw [wrapU]
          congr 1
        case measure => simp [intOf]; omega
      · obtain rfl : j = len2 := by omega
        clear hlt
        go_wp2_with fail
        refine (at_get HS.out.at' (a + 8) 8 (by omega) (by omega) (by omega) (by omega)).mono ?_
        rw [HS.out.far]
        rintro e w3 ⟨rfl, A3, k3⟩
        have HA := Lib.hid A3
        clear A3 k3
        go_wp2_with fail
        go_ret
        exact ⟨rfl, HA.out.bel⟩
  · have hm : (kk : Int) % 4 = 3 := by omega
    clear hr
    go_enter Try.func5, Try.ntmps5
    go_wp2_with fail
    refine (awake_any _).mono ?_
    rintro e w1 ⟨rfl, b1⟩
    have B1 := Lib.hid b1
    clear b1
    go_wp2_with fail
    refine (at_new (w0 := w) B1.out _ 32 (by decide)).mono ?_
    rintro e w2 ⟨s, O2, rfl, A2⟩
    have H2 := Lib.hid A2
    clear A2 d1
    go_wp2_with fail
    clear hm hA
    go_loopw [11, 12] (fun x i wr => ∃ (j sum T : Nat) (f : Nat → UInt8) (O : Nat → Prop), x = .int .u64 sum ∧ i = .int .i64 j ∧ Sums w wr s a 8 l j sum T f O) (fun _ i _ => len2 - (intOf i).toNat)
    case atStart => exact ⟨0, 0, 0, _, _, rfl, rfl, sums_start H2.out⟩
    case round =>
      obtain ⟨j, sum, T, f, O, rfl, rfl, hS⟩ := hrel
      have HS := Lib.hid hS
      have hjl := hS.le
      have hT := hS.tk
      have hsum := hS.lt
      have hlen := HL.out.1
      clear hS H2
      by_cases hlt : j < len2
      · obtain ⟨ad, rfl, hc⟩ := (HL.out.2.1.keep fun p hp => HS.out.at'.bel.cell hp) (by rw [u64s_length]; omega)
        have hcj := hc j (by rw [u64s_length]; omega)
        simp only [u64s, List.getElem_map] at hcj
        have hjl' : j < l.length := by omega
        obtain ⟨q, hq⟩ : ∃ q, q = l[j]'hjl' := ⟨_, rfl⟩
        rw [← hq] at hcj
        have hq64 : q < 18446744073709551616 := by rw [hq]; exact HL.out.2.2 _ (List.getElem_mem _)
        have hadl : ad.block < w.heap.size := by
          obtain ⟨ad', e', hc'⟩ := HL.out.2.1 (by rw [u64s_length]; omega)
          injection e' with e'
          have := lt_of_cell (hc' 0 (by rw [u64s_length]; omega))
          rw [block_of_add, ← e'] at this
          exact this
        have hnO : ¬ O ad.block := fun e => by have := HS.out.at'.old _ e; omega
        obtain ⟨v, hv⟩ : ∃ v, v = M.num (M.rd f a 8) := ⟨_, rfl⟩
        have hvs : v = sum % 18446744073709551616 := by rw [hv, HS.out.num]
        have q1 : ((v : Int) != (sum : Int)) = false := by simp; omega
        have q2 : (v != sum) = false := by simp; omega
        have HQ := Lib.hid (And.intro hq (And.intro hv (And.intro hvs (And.intro hlen (And.intro hadl hnO)))))
        clear hc hq hv hvs hlen hnO hadl
        go_wp2_with fail
        refine (at_add HS.out.at' a 8 q (by omega) (by omega) (by omega) hq64 (by omega)).mono ?_
        rw [← HQ.out.2.1]
        rintro e w3 ⟨rfl, A3, k3⟩
        have hcj3 : w3.cell? (ad.add j) = some (.int .u64 (q : Int)) := k3.cell_some hcj (by rw [block_of_add]; exact HQ.out.2.2.2.2.2)
        have HA := Lib.hid (And.intro A3 k3)
        clear A3 k3 hcj
        go_wp2_with fail
        go_roundw
        case rel =>
          refine ⟨j + 1, (sum + q) % 18446744073709551616, _, _, _, ?_, by go_num, sums_step (by omega) HS.out hjl' v _ HQ.out.2.1 (by rw [HQ.out.1]) (by rw [← HQ.out.1]; exact HA.out.1)⟩
          rw [wrapU]
          congr 1
        case measure => simp [intOf]; omega
      · obtain rfl : j = len2 := by omega
        clear hlt
        go_wp2_with fail
        refine (at_get HS.out.at' (a + 8) 8 (by omega) (by omega) (by omega) (by omega)).mono ?_
        rw [HS.out.far]
        rintro e w3 ⟨rfl, A3, k3⟩
        have HA := Lib.hid A3
        clear A3 k3
        go_wp2_with fail
        go_ret
        exact ⟨rfl, HA.out.bel⟩

/-! The row's step. -/
set_option maxRecDepth 100000 in
theorem lifted (os : Os) (started : os.Started) (H : Type) (enc : TypeId × Value → H) :
    ReturnsInHanded {} Try.checked os 5 .any (Rows.cellsSumsSpec.pre6 enc Try.prog Try.f5 Rows.cellsSumsRow.domain false) (Rows.cellsSumsSpec.post enc Try.prog Try.f5 false true false false) := by
  refine returnsInHanded_of_change (C := Try.checked) own started (by kernel_rfl) Try.func5
    (ChangeSpec.witness6 (enc := enc) (C := Try.checked) false ⟨#[], #[.int .u16 0, .int .u8 0, .slice none 0 0], []⟩ 8 (by kernel_rfl) (by kernel_rfl) (by kernel_rfl) (by kernel_rfl)) ?_
  intro W base args ds gs before hval0 hW hcnd _
  have hval : ∀ (j : Nat) t v, Try.f5.params[j]? = some t → args[j]? = some v → Value.okWide Try.prog W .any base t v := hval0
  have hW' := hW
  obtain ⟨p, q, hA0, hV, rfl, hfz, hnd⟩ := hW
  have hA : DataW.TrodAll enc Try.prog W 0 (fun _ => true) true Try.f5.params.toList args.toList ds p := hA0
  rw [Try.params5] at hA hval
  obtain ⟨v0, vs0, d0, ds0, p0, q0, hargs, rfl, rfl, h0, r0⟩ := trodAll_cons hA
  obtain ⟨v1, vs1, d1, ds1, p1, q1, rfl, rfl, rfl, h1, r1⟩ := trodAll_cons r0
  obtain ⟨v2, vs2, d2, ds2, p2, q2, rfl, rfl, rfl, h2, r2⟩ := trodAll_cons r1
  obtain ⟨rfl, rfl, rfl⟩ := trodAll_nil r2
  obtain rfl : args = #[v0, v1, v2] := by cases args; simp_all
  obtain ⟨rfl, rfl⟩ := trodVars_none hV
  obtain ⟨a0, rfl, rfl, rfl, w0⟩ := open_int Try.underlying48 (hval 0 48 v0 rfl rfl) h0
  obtain ⟨a1, rfl, rfl, rfl, w1⟩ := open_int Try.underlying5 (hval 1 5 v1 rfl rfl) h1
  obtain ⟨a2, len2, cap2, rfl⟩ := okWide_slice Try.underlying51 (hval 2 51 v2 rfl rfl)
  have k2 := h2
  have lt2 : ∀ x ∈ p2, x.block < W.heap.size := by obtain ⟨m, hm⟩ := k2; exact DataW.trod_lt m _ _ _ hm
  obtain ⟨z2, w2⟩ : ∃ zs, IsRow .u64 W a2 len2 cap2 zs := by
    obtain ⟨fuel, hf⟩ := h2
    rcases open_ints Try.underlying51 Try.underlying31 (by kernel_rfl) hf with ⟨hcs, _⟩ | ⟨x, l, c, zs, hcs, _, hl, hm, hz, _, hcell, hwz⟩
    · simp [Value.cells] at hcs
      obtain ⟨rfl, rfl, rfl⟩ := hcs
      exact ⟨[], .inl ⟨rfl, rfl, rfl, rfl⟩⟩
    · simp [Value.cells] at hcs
      obtain ⟨rfl, rfl, rfl⟩ := hcs
      exact ⟨zs, .inr ⟨_, rfl, hl, hm, by simpa using hz, hcell, hwz⟩⟩
  clear hA0 hval0
  refine (walk a0 a1 a2 len2 cap2 z2 W w0 w1 w2).mono fun e W' ⟨he, bel⟩ => ?_
  subst he
  exact ⟨_, rfl, _, _, _, [], _, [], hW', trodAll_mk1 (shut_bool Try.underlying4 _), (trodAll_cons_mk (shut_int Try.underlying48 w0) (trodAll_cons_mk (shut_int Try.underlying5 w1) (trodAll_cons_mk (Below.trod laidOut (by kernel_rfl) (of_decide_eq_true (by kernel_rfl)) k2 bel lt2) trodAll_mk0))), rfl, bel.frame _, fun h => by cases h⟩

theorem over : Rows.cellsSumsRow.holds Try.pinned (OpenSpec.ofChange Rows.cellsSumsSpec) :=
  OpenClaim.holds_of_wide 5 Try.f5 rfl rfl rfl rfl rfl rfl rfl ⟨rfl, rfl, rfl, rfl, rfl⟩ rfl rfl rfl rfl rfl (by kernel_rfl) Try.func5 (by kernel_rfl)
    (of_decide_eq_true (by kernel_rfl)) (by unfold Func.isWrapper; first | (rw [if_pos (by decide +kernel)]; kernel_rfl) | (rw [if_neg (by decide +kernel)]; exact ⟨rfl, rfl⟩))
    (fun os started H enc _ => lifted os started H enc)

/-- The statement. -/
theorem proved : Rows.CellsSumsSaid := over
#print axioms proved
end Go.Proofs.Ytpcahaihlcaabaa.cellsSums
