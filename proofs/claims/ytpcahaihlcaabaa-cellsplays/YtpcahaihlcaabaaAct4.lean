/-
  Acts of layer 4: what a slice of them is in memory; 'few'; the document's space in a variable.
-/
import Derived.Test.YtpcahaihlcaabaaRC4
import Derived.Deep.Slices
import Derived.Deep.Fields
namespace Go.Proofs.Ytpcahaihlcaabaa
open Go.ChangeShapes Go.WideShapes Go.ChangeAt Go.RowKit Go.Deep
set_option linter.unusedVariables false
set_option maxRecDepth 20000

structure ActD where
  d : Nat
  at' : Nat
  y : Int
  n : Nat
  t : Int
/-- An act's five cells. -/
structure IsAct (w : World) (bl o : Nat) (x : ActD) : Prop where
  c0 : w.cell? ⟨bl, o, none⟩ = some (.int .u8 (x.d : Int))
  c1 : w.cell? ⟨bl, o + 1, none⟩ = some (.int .u64 (x.at' : Int))
  c2 : w.cell? ⟨bl, o + 2, none⟩ = some (.int .i64 x.y)
  c3 : w.cell? ⟨bl, o + 3, none⟩ = some (.int .u64 (x.n : Int))
  c4 : w.cell? ⟨bl, o + 4, none⟩ = some (.int .i64 x.t)
  d : x.d < 256
  at' : x.at' < 18446744073709551616
  n : x.n < 18446744073709551616
def Acts (w : World) (A : Option Addr) (l : List ActD) : Prop := 0 < l.length → ∃ bl o, A = some ⟨bl, o, none⟩ ∧ ∀ i (h : i < l.length), IsAct w bl (o + i * 5) l[i]
theorem IsAct.below {w w' : World} {bl o : Nat} {x : ActD} (h : IsAct w bl o x) (hb : Below w.heap.size w w') : IsAct w' bl o x :=
  ⟨(hb.cell (lt_of_cell h.c0)).trans h.c0, (hb.cell (lt_of_cell h.c1)).trans h.c1, (hb.cell (lt_of_cell h.c2)).trans h.c2, (hb.cell (lt_of_cell h.c3)).trans h.c3, (hb.cell (lt_of_cell h.c4)).trans h.c4, h.d, h.at', h.n⟩
theorem Acts.below {w w' : World} {A : Option Addr} {l : List ActD} (h : Acts w A l) (hb : Below w.heap.size w w') : Acts w' A l := fun hl => by
  obtain ⟨bl, o, e, hc⟩ := h hl
  exact ⟨bl, o, e, fun i hi => (hc i hi).below hb⟩
def bad (x : ActD) : Bool := decide (900 < x.t) && decide (x.t ≤ 1048576)
def fewB (l : List ActD) : Bool := l.all (fun x => !bad x) && decide (l.length ≤ 30)
theorem fewB_len {l : List ActD} (h : fewB l = true) : l.length ≤ 30 := by
  unfold fewB at h
  simp only [Bool.and_eq_true, decide_eq_true_eq] at h
  exact h.2

set_option maxHeartbeats 1000000 in
theorem few_any (w : World) (A : Option Addr) (l : List ActD) (z c : Nat) (hz : z = l.length) (hA : Acts w A l) (hl : z ≤ 9223372036854775807) :
    Calls Try.prog 10 #[.slice A z c] w fun e w' => e = .returned (.bool (fewB l)) ∧ w = w' := by
  have HZ := Lib.hid hz
  have HA := Lib.hid hA
  clear hz hA
  go_enter Try.func10, Try.ntmps10
  go_wp2_with fail
  go_loop [3] (fun i => ∃ k : Nat, k ≤ z ∧ i = .int .i64 k ∧ ∀ j (h : j < l.length), j < k → bad l[j] = false) (fun i => z - (intOf i).toNat)
  case atStart => exact ⟨0, by omega, rfl, fun j _ h => by omega⟩
  case round =>
    obtain ⟨k, hk, rfl, hg⟩ := hrel
    have HG := Lib.hid hg
    clear hg
    by_cases hlt : k < z
    · have hkl : k < l.length := by have := HZ.out; omega
      obtain ⟨bl, o, rfl, hc⟩ := HA.out (by omega)
      have hx := hc k hkl
      obtain ⟨x, hxe⟩ : ∃ x, x = l[k] := ⟨_, rfl⟩
      rw [← hxe] at hx
      have c4 := hx.c4
      have HX := Lib.hid hxe
      have HK := Lib.hid hkl
      clear hx hxe hc hk HA
      have fin : bad x = true → fewB l = false := fun h => by
        have hm : x ∈ l := by rw [HX.out]; exact List.getElem_mem _
        have : l.all (fun x => !bad x) = false := by
          rw [List.all_eq_false]
          exact ⟨x, hm, by simp [h]⟩
        unfold fewB
        rw [this]
        rfl
      have FIN := Lib.hid fin
      have nxt : bad x = false → ∀ j (h : j < l.length), j < k + 1 → bad l[j] = false := fun h j hj hjk => by
        rcases Nat.lt_or_ge j k with h1 | h1
        · exact HG.out j hj h1
        · have e : j = k := by omega
          subst e
          rw [← HX.out]
          exact h
      have NXT := Lib.hid nxt
      clear fin nxt
      obtain ⟨xt, hxt⟩ : ∃ xt, xt = x.t := ⟨_, rfl⟩
      rw [← hxt] at c4
      have HE := Lib.hid (show bad x = (decide (900 < xt) && decide (xt ≤ 1048576)) by rw [hxt]; rfl)
      clear hxt
      by_cases b1 : 900 < xt
      · have d1 : decide (900 < xt) = true := by simp; omega
        by_cases b2 : xt ≤ 1048576
        · have d2 : decide (xt ≤ 1048576) = true := by simp; omega
          have hb : bad x = true := by rw [HE.out, d1, d2]; rfl
          have HB := Lib.hid hb
          clear hb b1 b2 HE
          go_wp2_with fail
          go_ret
          exact ⟨retB (FIN.out HB.out).symm, rfl⟩
        · have d2 : decide (xt ≤ 1048576) = false := by simp; omega
          have hb : bad x = false := by rw [HE.out, d2, Bool.and_false]
          have HB := Lib.hid hb
          clear hb b1 b2 HE
          go_wp2_with fail
          go_round
          case rel => exact ⟨k + 1, by omega, by go_num, NXT.out HB.out⟩
          case measure => simp [intOf]; omega
      · have d1 : decide (900 < xt) = false := by simp; omega
        have hb : bad x = false := by rw [HE.out, d1, Bool.false_and]
        have HB := Lib.hid hb
        clear hb b1 HE
        go_wp2_with fail
        go_round
        case rel => exact ⟨k + 1, by omega, by go_num, NXT.out HB.out⟩
        case measure => simp [intOf]; omega
    · go_wp2_with fail
      go_ret
      refine ⟨retB ?_, rfl⟩
      have hz := HZ.out
      have ha : l.all (fun x => !bad x) = true := by
        rw [List.all_eq_true]
        intro x hx
        obtain ⟨j, hj, rfl⟩ := List.getElem_of_mem hx
        rw [HG.out j hj (by omega)]
        rfl
      unfold fewB
      rw [ha, Bool.true_and, hz, Bool.eq_iff_iff]
      simp only [decide_eq_true_eq]
      omega

/-! An argument that is a slice of acts. -/
section
variable {H : Type} {enc : TypeId × Value → H} {W : World} {base : Nat} {spare : Nat → Bool} {held : Bool}

theorem list_of {α : Type} {Q : Nat → α → Prop} (n : Nat) (h : ∀ i, i < n → ∃ x, Q i x) : ∃ l : List α, l.length = n ∧ ∀ i (hi : i < l.length), Q i l[i] := by
  induction n with
  | zero => exact ⟨[], rfl, fun i hi => absurd hi (by simp)⟩
  | succ n ih =>
    obtain ⟨l, h1, h2⟩ := ih (fun i hi => h i (by omega))
    obtain ⟨x, hx⟩ := h n (by omega)
    refine ⟨l ++ [x], by simp [h1], fun i hi => ?_⟩
    rcases Nat.lt_or_ge i l.length with hl | hl
    · rw [List.getElem_append_left hl]
      exact h2 i hl
    · have e : i = n := by simp at hi; omega
      subst e
      rw [List.getElem_append_right (by omega)]
      simpa using hx
theorem one_of {cs : List Value} {j n : Nat} (hn : cs.length = n) (hj : j < n) : ∃ v, cs[j]? = some v ∧ (cs.drop j).take 1 = [v] := by
  have h1 : j < cs.length := by omega
  refine ⟨cs[j], List.getElem?_eq_getElem h1, ?_⟩
  rw [List.drop_eq_getElem_cons h1]
  rfl
theorem one34 : ∃ fs : Array Field, Try.prog.underlying 33 = some (.struct fs) ∧ oneCellFields Try.prog fs = true ∧ fs.size = 5 ∧ Try.prog.cellsOf 33 = 5 ∧
    (∃ f, fs[0]? = some f ∧ f.type = 5) ∧ (∃ f, fs[1]? = some f ∧ f.type = 31) ∧ (∃ f, fs[2]? = some f ∧ f.type = 3) ∧ (∃ f, fs[3]? = some f ∧ f.type = 31) ∧ ∃ f, fs[4]? = some f ∧ f.type = 3 :=
  ⟨_, Try.underlying33, by kernel_rfl, by rfl, by kernel_rfl, ⟨_, rfl, rfl⟩, ⟨_, rfl, rfl⟩, ⟨_, rfl, rfl⟩, ⟨_, rfl, rfl⟩, ⟨_, rfl, rfl⟩⟩
theorem act_open {fuel : Nat} {cs : List Value} {x : DataW H × List MemPlace} {a : Addr} (hc : W.cells? base a (Try.prog.cellsOf 33) = some cs) (h : DataW.trod enc Try.prog W base spare held fuel 33 cs = some x) :
    ∃ y : ActD, a.spot = none ∧ IsAct W a.block a.off y := by
  obtain ⟨fs, hu, hone, hsz, hcell, ⟨f0, h0, t0⟩, ⟨f1, h1, t1⟩, ⟨f2, h2, t2⟩, ⟨f3, h3, t3⟩, ⟨f4, h4, t4⟩⟩ := one34
  obtain ⟨_, hlen, hat⟩ := World.cells?_some hc
  obtain ⟨xs, n, _, _, _, hxl, hf⟩ := DataW.trod_struct hu h
  rw [hcell] at hlen hat
  have get : ∀ (j : Nat) (f : Field), fs[j]? = some f → j < 5 → ∃ v y, W.cell? (a.add j) = some v ∧ DataW.trod enc Try.prog W base spare held n f.type [v] = some y := fun j f hj hj5 => by
    obtain ⟨ho, hk⟩ := hone_of hone j f hj
    obtain ⟨v, hv, hv1⟩ := one_of (n := 5) hlen hj5
    have := hf j f hj
    rw [ho, hk, hv1] at this
    refine ⟨v, xs[j]'(by omega), (hat j hj5).trans hv, ?_⟩
    rw [this, List.getElem?_eq_getElem (by omega)]
  obtain ⟨v0, y0, c0, r0⟩ := get 0 f0 h0 (by omega)
  obtain ⟨v1, y1, c1, r1⟩ := get 1 f1 h1 (by omega)
  obtain ⟨v2, y2, c2, r2⟩ := get 2 f2 h2 (by omega)
  obtain ⟨v3, y3, c3, r3⟩ := get 3 f3 h3 (by omega)
  obtain ⟨v4, y4, c4, r4⟩ := get 4 f4 h4 (by omega)
  rw [t0] at r0
  rw [t1] at r1
  rw [t2] at r2
  rw [t3] at r3
  rw [t4] at r4
  obtain ⟨d, e0, _, wd⟩ := DataW.trod_int Try.underlying5 r0
  obtain ⟨p, e1, _, wp⟩ := DataW.trod_int Try.underlying31 r1
  obtain ⟨q, e2, _, wq⟩ := DataW.trod_int Try.underlying3 r2
  obtain ⟨m, e3, _, wm⟩ := DataW.trod_int Try.underlying31 r3
  obtain ⟨u, e4, _, wu⟩ := DataW.trod_int Try.underlying3 r4
  simp only [List.cons.injEq, and_true] at e0 e1 e2 e3 e4
  subst e0 e1 e2 e3 e4
  obtain ⟨d, hd, rfl⟩ := u8_nat wd
  obtain ⟨p, hp, rfl⟩ := u64_nat wp
  obtain ⟨m, hm, rfl⟩ := u64_nat wm
  have hs : a.spot = none := by
    rw [add_zero'] at c0
    exact World.cell?_spot c0
  obtain ⟨bl, o, sp⟩ := a
  simp only at hs
  subst hs
  have ad : ∀ j, (⟨bl, o, none⟩ : Addr).add j = ⟨bl, o + j, none⟩ := fun j => by unfold Addr.add; split <;> simp_all
  rw [ad] at c0 c1 c2 c3 c4
  exact ⟨⟨d, p, q, m, u⟩, rfl, c0, c1, c2, c3, c4, hd, hp, hm⟩

/-- What the walk is told of a slice of acts. -/
def IsActs (W : World) (A : Option Addr) (len : Nat) : Prop := len ≤ 9223372036854775807 ∧ ∃ l : List ActD, len = l.length ∧ Acts W A l
theorem acts_open {fuel : Nat} {cs : List Value} {x : DataW H × List MemPlace} (h : DataW.trod enc Try.prog W base spare held fuel 22 cs = some x) :
    ∃ A len cap, cs = [.slice A len cap] ∧ IsActs W A len := by
  rcases open_slice Try.underlying22 h with ⟨rfl, _⟩ | ⟨a, len, cap, m, n, D, Pl, rfl, _, hl, hmx, hm, _, hi⟩
  · exact ⟨none, 0, 0, rfl, by omega, [], rfl, fun h => absurd h (by simp)⟩
  · have hlm : len ≤ m := by rw [hm]; split <;> omega
    have h5 : Try.prog.cellsOf 33 = 5 := by kernel_rfl
    refine ⟨some a, len, cap, rfl, by unfold maxLen at hmx; omega, ?_⟩
    obtain ⟨l, hl1, hl2⟩ := list_of (Q := fun i y => (a.add (i * 5)).spot = none ∧ IsAct W (a.add (i * 5)).block (a.add (i * 5)).off y) len (fun i hi' => by
      obtain ⟨cs', hc, ht⟩ := hi i (by omega)
      obtain ⟨y, hy⟩ := act_open hc ht
      rw [h5] at hy
      exact ⟨y, hy⟩)
    refine ⟨l, hl1.symm, fun hpos => ?_⟩
    have hs : a.spot = none := by
      have := (hl2 0 hpos).1
      rw [Nat.zero_mul, add_zero'] at this
      exact this
    obtain ⟨bl, o, sp⟩ := a
    simp only at hs
    subst hs
    have ad : ∀ j, (⟨bl, o, none⟩ : Addr).add j = ⟨bl, o + j, none⟩ := fun j => by unfold Addr.add; split <;> simp_all
    refine ⟨bl, o, rfl, fun i hi' => ?_⟩
    have := (hl2 i hi').2
    rw [ad] at this
    exact this
end
/-- The variable is given another space of the document's. -/
theorem RefP.turn0 {w w2 : World} {bw P T : Nat} {O : Nat → Prop} {l : List M.Ent} {A : Option Addr} {c : Nat} {T' : Nat} {l' : List M.Ent} {A' : Option Addr} {c' : Nat} (h : RefP w bw P T O l A c) (hb : Below w.heap.size w w2) (hO : ∀ b, O b → b < w.heap.size) (hlog : LogAt w2 A' l') (hf : Fresh w w2 A A' c c' l l') (hok : ∀ e ∈ l', EntOk e) :
    RefP (((w2.setCell ⟨bw, 0, none⟩ (.int .i64 (P : Int))).setCell ⟨bw, 1, none⟩ (.slice A' l'.length c')).setCell ⟨bw, 2, none⟩ (.int .i64 (T' : Int))) bw P T' O l' A' c' ∧
      Kept w2 (((w2.setCell ⟨bw, 0, none⟩ (.int .i64 (P : Int))).setCell ⟨bw, 1, none⟩ (.slice A' l'.length c')).setCell ⟨bw, 2, none⟩ (.int .i64 (T' : Int))) (fun b => b = bw) := by
  have h2 := (h.below hb)
  have hlt := h.lt
  have hsz := hb.size
  have a0 := h2.c0
  have a1 := h2.c1
  have a2 := h2.c2
  have kk : Kept w2 (((w2.setCell ⟨bw, 0, none⟩ (.int .i64 (P : Int))).setCell ⟨bw, 1, none⟩ (.slice A' l'.length c')).setCell ⟨bw, 2, none⟩ (.int .i64 (T' : Int))) (fun b => b = bw) :=
    (((Kept.refl w2 (fun b => b = bw)).setCell (p := ⟨bw, 0, none⟩) (fun _ => rfl) _).setCell (p := ⟨bw, 1, none⟩) (fun _ => rfl) _).setCell (p := ⟨bw, 2, none⟩) (fun _ => rfl) _
  have hap : 0 < l'.length → ∀ ad, A' = some ad → ¬ O ad.block ∧ ad.block ≠ bw := fun h0 ad e => by
    rcases hf with ⟨rfl, rfl, rfl⟩ | ⟨g, rfl, hg1, hg2, _⟩
    · exact h.apart h0 ad e
    · injection e with e
      rw [← e]
      exact ⟨fun e => by have := hO _ e; simp at this; omega, by show g ≠ bw; omega⟩
  refine ⟨⟨?_, ?_, ?_, fun j => ?_, kk.lies hlog (fun hn ad e => (hap (by rw [logCells_length] at hn; omega) ad e).2), fun h0 => ?_, hap, hok, h.no⟩, kk⟩
  · rw [World.cell?_setCell_other _ _ _ _ (by simp), World.cell?_setCell_other _ _ _ _ (by simp)]
    exact World.cell?_setCell_same _ _ _ a0
  · rw [World.cell?_setCell_other _ _ _ _ (by simp)]
    refine World.cell?_setCell_same _ _ _ (show World.cell? _ _ = some (.slice A l.length c) from ?_)
    rw [World.cell?_setCell_other _ _ _ _ (by simp)]
    exact a1
  · refine World.cell?_setCell_same _ _ _ (show World.cell? _ _ = some (.int .i64 (T : Int)) from ?_)
    rw [World.cell?_setCell_other _ _ _ _ (by simp), World.cell?_setCell_other _ _ _ _ (by simp)]
    exact a2
  · rw [World.frozen?_setCell, World.frozen?_setCell, World.frozen?_setCell]
    exact h2.fz j
  · rcases hf with ⟨rfl, rfl, rfl⟩ | ⟨g, _, _, _, h1⟩
    · exact h.emp h0
    · omega
end Go.Proofs.Ytpcahaihlcaabaa
