/-
  Acts: what a slice of them is in memory; 'few'; what 'play' leaves.
-/
import Derived.Test.YtdchnncoddjngaaEx
namespace Go.Proofs.Ytdchnncoddjngaa
open Go.ChangeShapes Go.WideShapes Go.ChangeAt Go.RowKit
set_option linter.unusedVariables false

structure ActD where
  d : Nat
  at' : Nat
  src : Nat
  n : Nat
  A : Option Addr
  len : Nat
  cap : Nat
  b : List UInt8
/-- An act's five cells, and its bytes. -/
structure IsAct (w : World) (bl o : Nat) (x : ActD) : Prop where
  c0 : w.cell? ⟨bl, o, none⟩ = some (.int .u8 (x.d : Int))
  c1 : w.cell? ⟨bl, o + 1, none⟩ = some (.int .u64 (x.at' : Int))
  c2 : w.cell? ⟨bl, o + 2, none⟩ = some (.int .u64 (x.src : Int))
  c3 : w.cell? ⟨bl, o + 3, none⟩ = some (.int .u64 (x.n : Int))
  c4 : w.cell? ⟨bl, o + 4, none⟩ = some (.slice x.A x.len x.cap)
  d : x.d < 256
  at' : x.at' < 18446744073709551616
  src : x.src < 18446744073709551616
  n : x.n < 18446744073709551616
  lies : Lies w x.A (u8s x.b)
  len : x.len = x.b.length
  cap : x.len ≤ x.cap
  top : x.len ≤ 9223372036854775807
def Acts (w : World) (A : Option Addr) (l : List ActD) : Prop := 0 < l.length → ∃ bl o, A = some ⟨bl, o, none⟩ ∧ ∀ i (h : i < l.length), IsAct w bl (o + i * 5) l[i]
theorem IsAct.below {w w' : World} {bl o : Nat} {x : ActD} (h : IsAct w bl o x) (hb : Below w.heap.size w w') : IsAct w' bl o x :=
  ⟨(hb.cell (lt_of_cell h.c0)).trans h.c0, (hb.cell (lt_of_cell h.c1)).trans h.c1, (hb.cell (lt_of_cell h.c2)).trans h.c2, (hb.cell (lt_of_cell h.c3)).trans h.c3, (hb.cell (lt_of_cell h.c4)).trans h.c4, h.d, h.at', h.src, h.n, h.lies.below hb, h.len, h.cap, h.top⟩
theorem Acts.below {w w' : World} {A : Option Addr} {l : List ActD} (h : Acts w A l) (hb : Below w.heap.size w w') : Acts w' A l := fun hl => by
  obtain ⟨bl, o, e, hc⟩ := h hl
  exact ⟨bl, o, e, fun i hi => (hc i hi).below hb⟩
def bad (x : ActD) : Bool := decide (9000 < x.len) || ((!(x.d == 2) && decide (9000 < x.n)) && decide (x.n ≤ 1048576))
def fewB (l : List ActD) : Bool := l.all (fun x => !bad x) && decide (l.length ≤ 30)
theorem fewB_all {l : List ActD} (h : fewB l = true) (i : Nat) (hi : i < l.length) : bad l[i] = false := by
  unfold fewB at h
  simp only [Bool.and_eq_true, List.all_eq_true] at h
  simpa using h.1 l[i] (List.getElem_mem _)
theorem fewB_len {l : List ActD} (h : fewB l = true) : l.length ≤ 30 := by
  unfold fewB at h
  simp only [Bool.and_eq_true, decide_eq_true_eq] at h
  exact h.2

set_option maxHeartbeats 1000000 in
theorem few_any (w : World) (A : Option Addr) (l : List ActD) (z c : Nat) (hz : z = l.length) (hA : Acts w A l) (hl : z ≤ 9223372036854775807) :
    Calls Try.prog 11 #[.slice A z c] w fun e w' => e = .returned (.bool (fewB l)) ∧ w = w' := by
  have HZ := Lib.hid hz
  have HA := Lib.hid hA
  clear hz hA
  go_enter Try.func11, Try.ntmps11
  go_wp2_with fail
  go_loop [3] (fun i => ∃ k : Nat, k ≤ z ∧ i = .int .i64 k ∧ ∀ j (h : j < l.length), j < k → bad l[j] = false) (fun i => z - (intOf i).toNat)
  case atStart => exact ⟨0, by omega, rfl, fun j _ h => by omega⟩
  case round =>
    obtain ⟨k, hk, rfl, hg⟩ := hrel
    have HG := Lib.hid hg
    clear hg
    by_cases hlt : k < z
    · have hkl : k < l.length := by have := HZ.out; omega
      obtain ⟨bl, o, rfl, hc⟩ := HA.out (by omega)
      have hx := hc k hkl
      obtain ⟨x, hxe⟩ : ∃ x, x = l[k] := ⟨_, rfl⟩
      rw [← hxe] at hx
      have c0 := hx.c0
      have c3 := hx.c3
      have c4 := hx.c4
      have n3 := hx.n
      have n4 := hx.top
      have n0 := hx.d
      have HX := Lib.hid hxe
      have HK := Lib.hid hkl
      clear hx hxe hc hk HA
      have fin : bad x = true → fewB l = false := fun h => by
        have hm : x ∈ l := by rw [HX.out]; exact List.getElem_mem _
        have : l.all (fun x => !bad x) = false := by
          rw [List.all_eq_false]
          exact ⟨x, hm, by simp [h]⟩
        unfold fewB
        rw [this]
        rfl
      have FIN := Lib.hid fin
      have nxt : bad x = false → ∀ j (h : j < l.length), j < k + 1 → bad l[j] = false := fun h j hj hjk => by
        rcases Nat.lt_or_ge j k with h1 | h1
        · exact HG.out j hj h1
        · have e : j = k := by omega
          subst e
          rw [← HX.out]
          exact h
      have NXT := Lib.hid nxt
      clear fin nxt
      obtain ⟨xl, hxl⟩ : ∃ xl, xl = x.len := ⟨_, rfl⟩
      obtain ⟨xn, hxn⟩ : ∃ xn, xn = x.n := ⟨_, rfl⟩
      obtain ⟨xd, hxd⟩ : ∃ xd, xd = x.d := ⟨_, rfl⟩
      rw [← hxl] at c4 n4
      rw [← hxn] at c3 n3
      rw [← hxd] at c0 n0
      have HE := Lib.hid (show bad x = (decide (9000 < xl) || ((!(xd == 2) && decide (9000 < xn)) && decide (xn ≤ 1048576))) by rw [hxl, hxn, hxd]; rfl)
      clear hxl hxn hxd
      by_cases b1 : 9000 < xl
      · have hb : bad x = true := by rw [HE.out]; simp [b1]
        have d1 : decide ((9000 : Int) < (xl : Int)) = true := by simp; omega
        have HB := Lib.hid hb
        clear hb b1 HE
        go_wp2_with fail
        go_ret
        exact ⟨retB (FIN.out HB.out).symm, rfl⟩
      · have d1 : decide ((9000 : Int) < (xl : Int)) = false := by simp; omega
        by_cases b2 : xd = 2
        · subst b2
          have hb : bad x = false := by rw [HE.out]; simp [b1]
          have HB := Lib.hid hb
          clear hb b1 HE
          go_wp2_with fail
          go_round
          case rel => exact ⟨k + 1, by omega, by go_num, NXT.out HB.out⟩
          case measure => simp [intOf]; omega
        · have b2' : ((xd : Int) == 2) = false := by simp; omega
          have b2n : (xd == 2) = false := by simp [b2]
          have b2i : ¬ ((xd : Int) = 2) := by omega
          have b2d : decide ((xd : Int) = 2) = false := by simp; omega
          by_cases b3 : 9000 < xn
          · have d3 : decide ((9000 : Int) < (xn : Int)) = true := by simp; omega
            by_cases b4 : xn ≤ 1048576
            · have hb : bad x = true := by rw [HE.out, b2n]; simp [b3, b4]
              have d4 : decide ((xn : Int) ≤ 1048576) = true := by simp; omega
              have HB := Lib.hid hb
              clear hb b1 HE b2 b2n b3 b4
              go_wp2_with fail
              go_ret
              exact ⟨retB (FIN.out HB.out).symm, rfl⟩
            · have hb : bad x = false := by rw [HE.out, b2n]; simp [b1, b3, b4]
              have d4 : decide ((xn : Int) ≤ 1048576) = false := by simp; omega
              have HB := Lib.hid hb
              clear hb b1 HE b2 b2n b3 b4
              go_wp2_with fail
              go_round
              case rel => exact ⟨k + 1, by omega, by go_num, NXT.out HB.out⟩
              case measure => simp [intOf]; omega
          · have d3 : decide ((9000 : Int) < (xn : Int)) = false := by simp; omega
            have hb : bad x = false := by rw [HE.out, b2n]; simp [b1, b3]
            have HB := Lib.hid hb
            clear hb b1 HE b2 b2n b3
            go_wp2_with fail
            go_round
            case rel => exact ⟨k + 1, by omega, by go_num, NXT.out HB.out⟩
            case measure => simp [intOf]; omega
    · go_wp2_with fail
      go_ret
      refine ⟨retB ?_, rfl⟩
      have hz := HZ.out
      have ha : l.all (fun x => !bad x) = true := by
        rw [List.all_eq_true]
        intro x hx
        obtain ⟨j, hj, rfl⟩ := List.getElem_of_mem hx
        rw [HG.out j hj (by omega)]
        rfl
      unfold fewB
      rw [ha, Bool.true_and, hz, Bool.eq_iff_iff]
      simp only [decide_eq_true_eq]
      omega
end Go.Proofs.Ytdchnncoddjngaa
