/-
  Acts of layer 8: what a slice of them is in memory; 'few'; a round's variables beside the two spaces.
-/
import Derived.Test.YtacognejefeboaaR11
import Derived.Test.YtacognejefeboaaArg8
namespace Go.Proofs.Ytacognejefeboaa
open Go.ChangeShapes Go.WideShapes Go.ChangeAt Go.RowKit Go.Deep
set_option linter.unusedVariables false
set_option maxRecDepth 20000

structure ActD where
  d : Nat
  x : Int
  h : HeadD
  at' : Nat
  A : Option Addr
  len : Nat
  cap : Nat
  b : List UInt8
/-- An act's eight cells, and its bytes. -/
structure IsAct (w : World) (bl o : Nat) (x : ActD) : Prop where
  c0 : w.cell? ⟨bl, o, none⟩ = some (.int .u8 (x.d : Int))
  c1 : w.cell? ⟨bl, o + 1, none⟩ = some (.int .i64 x.x)
  c2 : w.cell? ⟨bl, o + 2, none⟩ = some (.int .i64 x.h.p)
  c3 : w.cell? ⟨bl, o + 3, none⟩ = some (.int .i64 x.h.k)
  c4 : w.cell? ⟨bl, o + 4, none⟩ = some (.int .u64 (x.h.o : Int))
  c5 : w.cell? ⟨bl, o + 5, none⟩ = some (.int .u64 (x.h.n : Int))
  c6 : w.cell? ⟨bl, o + 6, none⟩ = some (.int .u64 (x.at' : Int))
  c7 : w.cell? ⟨bl, o + 7, none⟩ = some (.slice x.A x.len x.cap)
  d : x.d < 256
  h : HeadOk x.h
  at' : x.at' < 18446744073709551616
  lies : Lies w x.A (u8s x.b)
  len : x.len = x.b.length
  cap : x.len ≤ x.cap
  top : x.len ≤ 9223372036854775807
def Acts (w : World) (A : Option Addr) (l : List ActD) : Prop := 0 < l.length → ∃ bl o, A = some ⟨bl, o, none⟩ ∧ ∀ i (h : i < l.length), IsAct w bl (o + i * 8) l[i]
theorem IsAct.below {w w' : World} {bl o : Nat} {x : ActD} (h : IsAct w bl o x) (hb : Below w.heap.size w w') : IsAct w' bl o x :=
  ⟨(hb.cell (lt_of_cell h.c0)).trans h.c0, (hb.cell (lt_of_cell h.c1)).trans h.c1, (hb.cell (lt_of_cell h.c2)).trans h.c2, (hb.cell (lt_of_cell h.c3)).trans h.c3, (hb.cell (lt_of_cell h.c4)).trans h.c4, (hb.cell (lt_of_cell h.c5)).trans h.c5, (hb.cell (lt_of_cell h.c6)).trans h.c6, (hb.cell (lt_of_cell h.c7)).trans h.c7, h.d, h.h, h.at', h.lies.below hb, h.len, h.cap, h.top⟩
theorem Acts.below {w w' : World} {A : Option Addr} {l : List ActD} (h : Acts w A l) (hb : Below w.heap.size w w') : Acts w' A l := fun hl => by
  obtain ⟨bl, o, e, hc⟩ := h hl
  exact ⟨bl, o, e, fun i hi => (hc i hi).below hb⟩
def bad (x : ActD) : Bool := decide (100 < x.len)
def fewB (l : List ActD) : Bool := l.all (fun x => !bad x) && decide (l.length ≤ 30)
theorem fewB_all {l : List ActD} (h : fewB l = true) (i : Nat) (hi : i < l.length) : l[i].len ≤ 100 := by
  unfold fewB at h
  simp only [Bool.and_eq_true, List.all_eq_true] at h
  have := h.1 l[i] (List.getElem_mem _)
  simpa [bad] using this
theorem fewB_len {l : List ActD} (h : fewB l = true) : l.length ≤ 30 := by
  unfold fewB at h
  simp only [Bool.and_eq_true, decide_eq_true_eq] at h
  exact h.2

set_option maxHeartbeats 1000000 in
theorem few_any (w : World) (A : Option Addr) (l : List ActD) (z c : Nat) (hz : z = l.length) (hA : Acts w A l) (hl : z ≤ 9223372036854775807) :
    Calls Try.prog 9 #[.slice A z c] w fun e w' => e = .returned (.bool (fewB l)) ∧ w = w' := by
  have HZ := Lib.hid hz
  have HA := Lib.hid hA
  clear hz hA
  go_enter Try.func9, Try.ntmps9
  go_wp2_with fail
  go_loop [3] (fun i => ∃ k : Nat, k ≤ z ∧ i = .int .i64 k ∧ ∀ j (h : j < l.length), j < k → bad l[j] = false) (fun i => z - (intOf i).toNat)
  case atStart => exact ⟨0, by omega, rfl, fun j _ h => by omega⟩
  case round =>
    obtain ⟨k, hk, rfl, hg⟩ := hrel
    have HG := Lib.hid hg
    clear hg
    by_cases hlt : k < z
    · have hkl : k < l.length := by have := HZ.out; omega
      obtain ⟨bl, o, rfl, hc⟩ := HA.out (by omega)
      have hx := hc k hkl
      obtain ⟨x, hxe⟩ : ∃ x, x = l[k] := ⟨_, rfl⟩
      rw [← hxe] at hx
      have c7 := hx.c7
      have n4 := hx.top
      have HX := Lib.hid hxe
      have HK := Lib.hid hkl
      clear hx hxe hc hk HA
      have fin : bad x = true → fewB l = false := fun h => by
        have hm : x ∈ l := by rw [HX.out]; exact List.getElem_mem _
        have : l.all (fun x => !bad x) = false := by
          rw [List.all_eq_false]
          exact ⟨x, hm, by simp [h]⟩
        unfold fewB
        rw [this]
        rfl
      have FIN := Lib.hid fin
      have nxt : bad x = false → ∀ j (h : j < l.length), j < k + 1 → bad l[j] = false := fun h j hj hjk => by
        rcases Nat.lt_or_ge j k with h1 | h1
        · exact HG.out j hj h1
        · have e : j = k := by omega
          subst e
          rw [← HX.out]
          exact h
      have NXT := Lib.hid nxt
      clear fin nxt
      obtain ⟨xl, hxl⟩ : ∃ xl, xl = x.len := ⟨_, rfl⟩
      rw [← hxl] at c7 n4
      have HE := Lib.hid (show bad x = decide (100 < xl) by rw [hxl]; rfl)
      clear hxl
      by_cases b1 : 100 < xl
      · have hb : bad x = true := by rw [HE.out]; simp [b1]
        have d1 : decide ((100 : Int) < (xl : Int)) = true := by simp; omega
        have HB := Lib.hid hb
        clear hb b1 HE
        go_wp2_with fail
        go_ret
        exact ⟨retB (FIN.out HB.out).symm, rfl⟩
      · have d1 : decide ((100 : Int) < (xl : Int)) = false := by simp; omega
        have hb : bad x = false := by rw [HE.out]; simpa using b1
        have HB := Lib.hid hb
        clear hb b1 HE
        go_wp2_with fail
        go_round
        case rel => exact ⟨k + 1, by omega, by go_num, NXT.out HB.out⟩
        case measure => simp [intOf]; omega
    · go_wp2_with fail
      go_ret
      refine ⟨retB ?_, rfl⟩
      have hz := HZ.out
      have ha : l.all (fun x => !bad x) = true := by
        rw [List.all_eq_true]
        intro x hx
        obtain ⟨j, hj, rfl⟩ := List.getElem_of_mem hx
        rw [HG.out j hj (by omega)]
        rfl
      unfold fewB
      rw [ha, Bool.true_and, hz, Bool.eq_iff_iff]
      simp only [decide_eq_true_eq]
      omega

/-! An argument that is a slice of acts. -/
section
variable {H : Type} {enc : TypeId × Value → H} {W : World} {base : Nat} {spare : Nat → Bool} {held : Bool}
theorem act_fs : ∃ fs : Array Field, Try.prog.underlying 36 = some (.struct fs) ∧ fs.size = 5 ∧ Try.prog.cellsOf 36 = 8 ∧
    (∃ f, fs[0]? = some f ∧ f.type = 5 ∧ f.offset = 0 ∧ Try.prog.cellsOf f.type = 1) ∧ (∃ f, fs[1]? = some f ∧ f.type = 3 ∧ f.offset = 1 ∧ Try.prog.cellsOf f.type = 1) ∧ (∃ f, fs[2]? = some f ∧ f.type = 33 ∧ f.offset = 2 ∧ Try.prog.cellsOf f.type = 4) ∧
    (∃ f, fs[3]? = some f ∧ f.type = 31 ∧ f.offset = 6 ∧ Try.prog.cellsOf f.type = 1) ∧ ∃ f, fs[4]? = some f ∧ f.type = 34 ∧ f.offset = 7 ∧ Try.prog.cellsOf f.type = 1 :=
  ⟨_, Try.underlying36, by rfl, by kernel_rfl, ⟨_, rfl, rfl, rfl, by kernel_rfl⟩, ⟨_, rfl, rfl, rfl, by kernel_rfl⟩, ⟨_, rfl, rfl, rfl, by kernel_rfl⟩, ⟨_, rfl, rfl, rfl, by kernel_rfl⟩, ⟨_, rfl, rfl, rfl, by kernel_rfl⟩⟩
theorem drop_take {cs : List Value} {a b c d : Value} (h : (cs.drop 2).take 4 = [a, b, c, d]) : cs[2]? = some a ∧ cs[3]? = some b ∧ cs[4]? = some c ∧ cs[5]? = some d := by
  have g : ∀ i, i < 4 → cs[2 + i]? = [a, b, c, d][i]? := fun i hi => by rw [← h, List.getElem?_take_of_lt hi, List.getElem?_drop]
  exact ⟨g 0 (by omega), g 1 (by omega), g 2 (by omega), g 3 (by omega)⟩
theorem act_open {fuel : Nat} {cs : List Value} {x : DataW H × List MemPlace} {a : Addr} (hc : W.cells? base a (Try.prog.cellsOf 36) = some cs) (h : DataW.trod enc Try.prog W base spare held fuel 36 cs = some x) :
    ∃ y : ActD, a.spot = none ∧ IsAct W a.block a.off y := by
  obtain ⟨fs, hu, hsz, hcell, ⟨f0, h0, t0, o0, k0⟩, ⟨f1, h1, t1, o1, k1⟩, ⟨f2, h2, t2, o2, k2⟩, ⟨f3, h3, t3, o3, k3⟩, ⟨f4, h4, t4, o4, k4⟩⟩ := act_fs
  obtain ⟨_, hlen, hat⟩ := World.cells?_some hc
  obtain ⟨xs, n, _, _, _, hxl, hf⟩ := DataW.trod_struct hu h
  rw [hcell] at hlen hat
  have get : ∀ (j off : Nat) (f : Field), fs[j]? = some f → j < 5 → f.offset = off → Try.prog.cellsOf f.type = 1 → off < 8 → ∃ v y, W.cell? (a.add off) = some v ∧ DataW.trod enc Try.prog W base spare held n f.type [v] = some y := fun j off f hj hj5 ho hk ho8 => by
    obtain ⟨v, hv, hv1⟩ := one_of (n := 8) hlen ho8
    have := hf j f hj
    rw [ho, hk, hv1] at this
    refine ⟨v, xs[j]'(by omega), (hat off ho8).trans hv, ?_⟩
    rw [this, List.getElem?_eq_getElem (by omega)]
  obtain ⟨v0, y0, c0, r0⟩ := get 0 0 f0 h0 (by omega) o0 k0 (by omega)
  obtain ⟨v1, y1, c1, r1⟩ := get 1 1 f1 h1 (by omega) o1 k1 (by omega)
  obtain ⟨v3, y3, c6, r3⟩ := get 3 6 f3 h3 (by omega) o3 k3 (by omega)
  obtain ⟨v4, y4, c7, r4⟩ := get 4 7 f4 h4 (by omega) o4 k4 (by omega)
  have r2 := hf 2 f2 h2
  rw [o2, k2, t2, List.getElem?_eq_getElem (by omega)] at r2
  obtain ⟨hh, hhok, hhe⟩ := head_cells r2
  obtain ⟨q2, q3, q4, q5⟩ := drop_take hhe
  have c2 := (hat 2 (by omega)).trans q2
  have c3 := (hat 3 (by omega)).trans q3
  have c4 := (hat 4 (by omega)).trans q4
  have c5 := (hat 5 (by omega)).trans q5
  rw [t0] at r0
  rw [t1] at r1
  rw [t3] at r3
  rw [t4] at r4
  obtain ⟨d, e0, _, wd⟩ := DataW.trod_int Try.underlying5 r0
  obtain ⟨p, e1, _, wp⟩ := DataW.trod_int Try.underlying3 r1
  obtain ⟨m, e3, _, wm⟩ := DataW.trod_int Try.underlying31 r3
  simp only [List.cons.injEq, and_true] at e0 e1 e3
  subst e0 e1 e3
  obtain ⟨d, hd, rfl⟩ := u8_nat wd
  obtain ⟨m, hm, rfl⟩ := u64_nat wm
  have hs : a.spot = none := by
    rw [add_zero'] at c0
    exact World.cell?_spot c0
  obtain ⟨bl, o, sp⟩ := a
  simp only at hs
  subst hs
  have ad : ∀ j, (⟨bl, o, none⟩ : Addr).add j = ⟨bl, o + j, none⟩ := fun j => by unfold Addr.add; split <;> simp_all
  rw [ad] at c0 c1 c2 c3 c4 c5 c6 c7
  rcases open_ints Try.underlying34 Try.underlying5 (by kernel_rfl) r4 with ⟨e4, _⟩ | ⟨b, len, cap, zs, e4, _, hl, hmx, hz, _, hcz, hwz⟩
  · simp only [List.cons.injEq, and_true] at e4
    subst e4
    exact ⟨⟨d, p, hh, m, none, 0, 0, []⟩, rfl, c0, c1, c2, c3, c4, c5, c6, c7, hd, hhok, hm, Lies.nil, rfl, Nat.le_refl _, Nat.zero_le _⟩
  · simp only [List.cons.injEq, and_true] at e4
    subst e4
    have hlz : len ≤ zs.length := by rw [hz]; split <;> omega
    refine ⟨⟨d, p, hh, m, some b, len, cap, (zs.take len).map fun n => UInt8.ofNat n.toNat⟩, rfl, c0, c1, c2, c3, c4, c5, c6, c7, hd, hhok, hm, fun _ => ⟨b, rfl, fun j hj => ?_⟩, by simp; omega, hl, by unfold maxLen at hmx; simp only; omega⟩
    have hj' : j < len := by simp [u8s] at hj; omega
    have hjz : j < zs.length := by omega
    rw [hcz j hjz]
    obtain ⟨n, hn, e⟩ := u8_nat (hwz zs[j] (List.getElem_mem _))
    simp [u8s, List.getD, List.getElem?_eq_getElem hjz, e]
    omega
/-- What the walk is told of a slice of acts. -/
def IsActs (W : World) (A : Option Addr) (len : Nat) : Prop := len ≤ 9223372036854775807 ∧ ∃ l : List ActD, len = l.length ∧ Acts W A l
theorem acts_open {fuel : Nat} {cs : List Value} {x : DataW H × List MemPlace} (h : DataW.trod enc Try.prog W base spare held fuel 22 cs = some x) :
    ∃ A len cap, cs = [.slice A len cap] ∧ IsActs W A len := by
  rcases open_slice Try.underlying22 h with ⟨rfl, _⟩ | ⟨a, len, cap, m, n, D, Pl, rfl, _, hl, hmx, hm, _, hi⟩
  · exact ⟨none, 0, 0, rfl, by omega, [], rfl, fun h => absurd h (by simp)⟩
  · have hlm : len ≤ m := by rw [hm]; split <;> omega
    have h8 : Try.prog.cellsOf 36 = 8 := by kernel_rfl
    refine ⟨some a, len, cap, rfl, by unfold maxLen at hmx; omega, ?_⟩
    obtain ⟨l, hl1, hl2⟩ := list_of (Q := fun i y => (a.add (i * 8)).spot = none ∧ IsAct W (a.add (i * 8)).block (a.add (i * 8)).off y) len (fun i hi' => by
      obtain ⟨cs', hc, ht⟩ := hi i (by omega)
      obtain ⟨y, hy⟩ := act_open hc ht
      rw [h8] at hy
      exact ⟨y, hy⟩)
    refine ⟨l, hl1.symm, fun hpos => ?_⟩
    have hs : a.spot = none := by
      have := (hl2 0 hpos).1
      rw [Nat.zero_mul, add_zero'] at this
      exact this
    obtain ⟨bl, o, sp⟩ := a
    simp only at hs
    subst hs
    have ad : ∀ j, (⟨bl, o, none⟩ : Addr).add j = ⟨bl, o + j, none⟩ := fun j => by unfold Addr.add; split <;> simp_all
    refine ⟨bl, o, rfl, fun i hi' => ?_⟩
    have := (hl2 i hi').2
    rw [ad] at this
    exact this
end
/-- The variable is given another space of the document's. -/
theorem RefP.turn0 {w w2 : World} {bw P T : Nat} {O : Nat → Prop} {l : List M.Ent} {A : Option Addr} {c : Nat} {T' : Nat} {l' : List M.Ent} {A' : Option Addr} {c' : Nat} (h : RefP w bw P T O l A c) (hb : Below w.heap.size w w2) (hO : ∀ b, O b → b < w.heap.size) (hlog : LogAt w2 A' l') (hf : Fresh w w2 A A' c c' l l') (hok : ∀ e ∈ l', EntOk e) :
    RefP (((w2.setCell ⟨bw, 0, none⟩ (.int .i64 (P : Int))).setCell ⟨bw, 1, none⟩ (.slice A' l'.length c')).setCell ⟨bw, 2, none⟩ (.int .i64 (T' : Int))) bw P T' O l' A' c' ∧
      Kept w2 (((w2.setCell ⟨bw, 0, none⟩ (.int .i64 (P : Int))).setCell ⟨bw, 1, none⟩ (.slice A' l'.length c')).setCell ⟨bw, 2, none⟩ (.int .i64 (T' : Int))) (fun b => b = bw) := by
  have h2 := (h.below hb)
  have hlt := h.lt
  have hsz := hb.size
  have a0 := h2.c0
  have a1 := h2.c1
  have a2 := h2.c2
  have kk : Kept w2 (((w2.setCell ⟨bw, 0, none⟩ (.int .i64 (P : Int))).setCell ⟨bw, 1, none⟩ (.slice A' l'.length c')).setCell ⟨bw, 2, none⟩ (.int .i64 (T' : Int))) (fun b => b = bw) :=
    (((Kept.refl w2 (fun b => b = bw)).setCell (p := ⟨bw, 0, none⟩) (fun _ => rfl) _).setCell (p := ⟨bw, 1, none⟩) (fun _ => rfl) _).setCell (p := ⟨bw, 2, none⟩) (fun _ => rfl) _
  have hap : 0 < l'.length → ∀ ad, A' = some ad → ¬ O ad.block ∧ ad.block ≠ bw := fun h0 ad e => by
    rcases hf with ⟨rfl, rfl, rfl⟩ | ⟨g, rfl, hg1, hg2, _⟩
    · exact h.apart h0 ad e
    · injection e with e
      rw [← e]
      exact ⟨fun e => by have := hO _ e; simp at this; omega, by show g ≠ bw; omega⟩
  refine ⟨⟨?_, ?_, ?_, fun j => ?_, kk.lies hlog (fun hn ad e => (hap (by rw [logCells_length] at hn; omega) ad e).2), fun h0 => ?_, hap, hok, h.no⟩, kk⟩
  · rw [World.cell?_setCell_other _ _ _ _ (by simp), World.cell?_setCell_other _ _ _ _ (by simp)]
    exact World.cell?_setCell_same _ _ _ a0
  · rw [World.cell?_setCell_other _ _ _ _ (by simp)]
    refine World.cell?_setCell_same _ _ _ (show World.cell? _ _ = some (.slice A l.length c) from ?_)
    rw [World.cell?_setCell_other _ _ _ _ (by simp)]
    exact a1
  · refine World.cell?_setCell_same _ _ _ (show World.cell? _ _ = some (.int .i64 (T : Int)) from ?_)
    rw [World.cell?_setCell_other _ _ _ _ (by simp), World.cell?_setCell_other _ _ _ _ (by simp)]
    exact a2
  · rw [World.frozen?_setCell, World.frozen?_setCell, World.frozen?_setCell]
    exact h2.fz j
  · rcases hf with ⟨rfl, rfl, rfl⟩ | ⟨g, _, _, _, h1⟩
    · exact h.emp h0
    · omega

/-- The variable that holds an act. -/
structure AB (w : World) (g : Nat) (x : ActD) : Prop where
  c0 : w.cell? ⟨g, 0, none⟩ = some (.int .u8 (x.d : Int))
  c1 : w.cell? ⟨g, 1, none⟩ = some (.int .i64 x.x)
  c2 : w.cell? ⟨g, 2, none⟩ = some (.int .i64 x.h.p)
  c3 : w.cell? ⟨g, 3, none⟩ = some (.int .i64 x.h.k)
  c4 : w.cell? ⟨g, 4, none⟩ = some (.int .u64 (x.h.o : Int))
  c5 : w.cell? ⟨g, 5, none⟩ = some (.int .u64 (x.h.n : Int))
  c6 : w.cell? ⟨g, 6, none⟩ = some (.int .u64 (x.at' : Int))
  c7 : w.cell? ⟨g, 7, none⟩ = some (.slice x.A x.len x.cap)
theorem AB.kept {w w' : World} {g : Nat} {x : ActD} {O : Nat → Prop} (h : AB w g x) (k : Kept w w' O) (n : ¬ O g) : AB w' g x :=
  ⟨k.cell_some h.c0 n, k.cell_some h.c1 n, k.cell_some h.c2 n, k.cell_some h.c3 n, k.cell_some h.c4 n, k.cell_some h.c5 n, k.cell_some h.c6 n, k.cell_some h.c7 n⟩
theorem AB.below {w w' : World} {g : Nat} {x : ActD} (h : AB w g x) (hb : Below w.heap.size w w') : AB w' g x :=
  ⟨(hb.cell (lt_of_cell h.c0)).trans h.c0, (hb.cell (lt_of_cell h.c1)).trans h.c1, (hb.cell (lt_of_cell h.c2)).trans h.c2, (hb.cell (lt_of_cell h.c3)).trans h.c3, (hb.cell (lt_of_cell h.c4)).trans h.c4, (hb.cell (lt_of_cell h.c5)).trans h.c5, (hb.cell (lt_of_cell h.c6)).trans h.c6, (hb.cell (lt_of_cell h.c7)).trans h.c7⟩
theorem AB.lt {w : World} {g : Nat} {x : ActD} (h : AB w g x) : g < w.heap.size := lt_of_cell h.c0
abbrev actO (x : ActD) : Obj := .cells #[.int .u8 (x.d : Int), .int .i64 x.x, .int .i64 x.h.p, .int .i64 x.h.k, .int .u64 (x.h.o : Int), .int .u64 (x.h.n : Int), .int .u64 (x.at' : Int), .slice x.A x.len x.cap] 36
theorem AB.new (w : World) (x : ActD) : AB (w.alloc (actO x)) w.heap.size x :=
  ⟨by rw [World.cell?_alloc_mark]; rfl, by rw [World.cell?_alloc_mark]; rfl, by rw [World.cell?_alloc_mark]; rfl, by rw [World.cell?_alloc_mark]; rfl, by rw [World.cell?_alloc_mark]; rfl, by rw [World.cell?_alloc_mark]; rfl, by rw [World.cell?_alloc_mark]; rfl, by rw [World.cell?_alloc_mark]; rfl⟩
/-- A round's variables beside the two spaces. -/
structure Rd (w0 v : World) (s bw P T T' : Nat) (f : Nat → UInt8) (O : Nat → Prop) (l : List M.Ent) (A : Option Addr) (c : Nat) (ba gx gy : Nat) (x : ActD) (X0 X1 X2 X3 Y0 Y1 Y2 Y3 : Value) : Prop where
  at' : At w0 v s P T f O
  rf : RefP v bw P T' O l A c
  ac : AB v ba x
  bx : Box4 v gx X0 X1 X2 X3
  by' : Box4 v gy Y0 Y1 Y2 Y3
  na : ¬ O ba
  nx : ¬ O gx
  ny : ¬ O gy
  e1 : bw < ba
  e2 : ba < gx
  e3 : gx < gy
  lo : w0.heap.size ≤ bw
  lw : 0 < l.length → ∀ ad, A = some ad → ad.block ≠ gx ∧ ad.block ≠ gy
section
variable {w0 v v2 : World} {s bw P T T' : Nat} {f : Nat → UInt8} {O : Nat → Prop} {l : List M.Ent} {A : Option Addr} {c ba gx gy : Nat} {x : ActD} {X0 X1 X2 X3 Y0 Y1 Y2 Y3 : Value}
theorem Fresh.from {w w1 w' : World} {A A' : Option Addr} {c c' : Nat} {l l' : List M.Ent} (h : Fresh w1 w' A A' c c' l l') (hb : Below w.heap.size w w1) : Fresh w w' A A' c c' l l' := by
  rcases h with h | ⟨g, h1, h2, h3, h4⟩
  · exact Or.inl h
  · exact Or.inr ⟨g, h1, Nat.le_trans hb.size h2, h3, h4⟩
/-- The document's call is done, and its space laid in the variable. -/
theorem Rd.doc {T2 : Nat} {l2 : List M.Ent} {A2 : Option Addr} {c2 : Nat} (h : Rd w0 v s bw P T T' f O l A c ba gx gy x X0 X1 X2 X3 Y0 Y1 Y2 Y3) (hb : Below v.heap.size v v2) (hlog : LogAt v2 A2 l2) (hf : Fresh v v2 A A2 c c2 l l2) (hok : ∀ e ∈ l2, EntOk e) :
    Rd w0 (((v2.setCell ⟨bw, 0, none⟩ (.int .i64 (P : Int))).setCell ⟨bw, 1, none⟩ (.slice A2 l2.length c2)).setCell ⟨bw, 2, none⟩ (.int .i64 (T2 : Int))) s bw P T T2 f O l2 A2 c2 ba gx gy x X0 X1 X2 X3 Y0 Y1 Y2 Y3 := by
  have tn := h.rf.turn0 (T' := T2) hb (fun b hb' => h.at'.sp.lt hb') hlog hf hok
  have at2 := h.at'.same hb
  have e1 := h.e1
  have e2 := h.e2
  have e3 := h.e3
  refine ⟨at2.other tn.2 (fun b hb' e => h.rf.no (e ▸ hb')) (at2.bel.trans (tn.2.below at2.bel.size (fun i e => by have := h.lo; omega))), tn.1, (h.ac.below hb).kept tn.2 (by omega), (h.bx.below hb).kept tn.2 (by omega), (h.by'.below hb).kept tn.2 (by omega), h.na, h.nx, h.ny, e1, e2, e3, h.lo, fun h0 ad e => ?_⟩
  rcases hf with ⟨rfl, rfl, rfl⟩ | ⟨g, rfl, hg1, hg2, _⟩
  · exact h.lw h0 ad e
  · have e : (⟨g, 0, none⟩ : Addr) = ad := by injection e
    subst e
    have q1 := h.bx.lt
    have q2 := h.by'.lt
    exact ⟨by show g ≠ gx; omega, by show g ≠ gy; omega⟩
theorem RefP.other {w w' : World} {bw P T : Nat} {O O' : Nat → Prop} {l : List M.Ent} {A : Option Addr} {c : Nat} (h : RefP w bw P T O l A c) (k : Kept w w' O') (h1 : ¬ O' bw) (h2 : 0 < l.length → ∀ ad, A = some ad → ¬ O' ad.block) : RefP w' bw P T O l A c :=
  ⟨k.cell_some h.c0 h1, k.cell_some h.c1 h1, k.cell_some h.c2 h1, fun j => (k.frozen (p := ⟨bw, j, none⟩) h.lt h1).trans (h.fz j), k.lies h.log (fun hn ad e => h2 (by rw [logCells_length] at hn; omega) ad e), h.emp, h.apart, h.ok, h.no⟩
theorem Rd.sety (h : Rd w0 v s bw P T T' f O l A c ba gx gy x X0 X1 X2 X3 Y0 Y1 Y2 Y3) (u0 u1 u2 u3 : Value) :
    Rd w0 ((((v.setCell ⟨gy, 0, none⟩ u0).setCell ⟨gy, 1, none⟩ u1).setCell ⟨gy, 2, none⟩ u2).setCell ⟨gy, 3, none⟩ u3) s bw P T T' f O l A c ba gx gy x X0 X1 X2 X3 u0 u1 u2 u3 := by
  have kk := kept_set4 v gy u0 u1 u2 u3
  have e1 := h.e1
  have e2 := h.e2
  have e3 := h.e3
  have lo := h.lo
  exact ⟨h.at'.other kk (fun b hb' e => h.ny (e ▸ hb')) (h.at'.bel.trans (kk.below h.at'.bel.size (fun i e => by omega))), h.rf.other kk (by omega) (fun h0 ad e => (h.lw h0 ad e).2), h.ac.kept kk (by omega), h.bx.kept kk (by omega), h.by'.set u0 u1 u2 u3, h.na, h.nx, h.ny, e1, e2, e3, h.lo, h.lw⟩
theorem Rd.setx (h : Rd w0 v s bw P T T' f O l A c ba gx gy x X0 X1 X2 X3 Y0 Y1 Y2 Y3) (u0 u1 u2 u3 : Value) :
    Rd w0 ((((v.setCell ⟨gx, 0, none⟩ u0).setCell ⟨gx, 1, none⟩ u1).setCell ⟨gx, 2, none⟩ u2).setCell ⟨gx, 3, none⟩ u3) s bw P T T' f O l A c ba gx gy x u0 u1 u2 u3 Y0 Y1 Y2 Y3 := by
  have kk := kept_set4 v gx u0 u1 u2 u3
  have e1 := h.e1
  have e2 := h.e2
  have e3 := h.e3
  have lo := h.lo
  exact ⟨h.at'.other kk (fun b hb' e => h.nx (e ▸ hb')) (h.at'.bel.trans (kk.below h.at'.bel.size (fun i e => by omega))), h.rf.other kk (by omega) (fun h0 ad e => (h.lw h0 ad e).1), h.ac.kept kk (by omega), h.bx.set u0 u1 u2 u3, h.by'.kept kk (by omega), h.na, h.nx, h.ny, e1, e2, e3, h.lo, h.lw⟩
/-- The program's call is done. -/
theorem Rd.pro {T4 : Nat} {f4 : Nat → UInt8} {v4 : World} (h : Rd w0 v s bw P T T' f O l A c ba gx gy x X0 X1 X2 X3 Y0 Y1 Y2 Y3) (a4 : At w0 v4 s P T4 f4 (Wid O v v4)) (k4 : Kept v v4 O) :
    Rd w0 v4 s bw P T4 T' f4 (Wid O v v4) l A c ba gx gy x X0 X1 X2 X3 Y0 Y1 Y2 Y3 := by
  have q1 := h.ac.lt
  have q2 := h.bx.lt
  have q3 := h.by'.lt
  exact ⟨a4, h.rf.kept k4, h.ac.kept k4 h.na, h.bx.kept k4 h.nx, h.by'.kept k4 h.ny, fun e => e.elim h.na (fun e => by omega), fun e => e.elim h.nx (fun e => by omega), fun e => e.elim h.ny (fun e => by omega), h.e1, h.e2, h.e3, h.lo, h.lw⟩
theorem Rd.below (h : Rd w0 v s bw P T T' f O l A c ba gx gy x X0 X1 X2 X3 Y0 Y1 Y2 Y3) (hb : Below v.heap.size v v2) : Rd w0 v2 s bw P T T' f O l A c ba gx gy x X0 X1 X2 X3 Y0 Y1 Y2 Y3 :=
  ⟨h.at'.same hb, h.rf.below hb, h.ac.below hb, h.bx.below hb, h.by'.below hb, h.na, h.nx, h.ny, h.e1, h.e2, h.e3, h.lo, h.lw⟩
end
/-- Behind some acts: the program's space and the document's, side by side. -/
def Rel (w0 wr : World) (s bw P k : Nat) : Prop := ∃ T O l A c, At w0 wr s P T (M.byteAt l) O ∧ RefP wr bw P T O l A c ∧ T ≤ k * 4194304 ∧ l.length ≤ k ∧ w0.heap.size ≤ bw
/-- A round begins. -/
theorem Rel.start {w0 wr : World} {s bw P T : Nat} {O : Nat → Prop} {l : List M.Ent} {A : Option Addr} {c : Nat} (at0 : At w0 wr s P T (M.byteAt l) O) (rf0 : RefP wr bw P T O l A c) (lo : w0.heap.size ≤ bw) (x : ActD) :
    Rd w0 (((wr.alloc (actO x)).alloc (.cells #[.int .i64 0, .int .i64 0, .int .u64 0, .int .u64 0] 33)).alloc (H4 (.int .i64 0) (.int .i64 0) (.int .u64 0) (.int .u64 0))) s bw P T T (M.byteAt l) O l A c wr.heap.size (wr.heap.size + 1) (wr.heap.size + 1 + 1) x (.int .i64 0) (.int .i64 0) (.int .u64 0) (.int .u64 0) (.int .i64 0) (.int .i64 0) (.int .u64 0) (.int .u64 0) := by
  have b1 := below_new wr (actO x)
  have b2 := below_new (wr.alloc (actO x)) (.cells #[.int .i64 0, .int .i64 0, .int .u64 0, .int .u64 0] 33)
  have b3 := below_new ((wr.alloc (actO x)).alloc (.cells #[.int .i64 0, .int .i64 0, .int .u64 0, .int .u64 0] 33)) (H4 (.int .i64 0) (.int .i64 0) (.int .u64 0) (.int .u64 0))
  have x1 := AB.new wr x
  have x2 := Box4.new (wr.alloc (actO x)) 33 (.int .i64 0) (.int .i64 0) (.int .u64 0) (.int .u64 0)
  have x3 := Box4.new ((wr.alloc (actO x)).alloc (.cells #[.int .i64 0, .int .i64 0, .int .u64 0, .int .u64 0] 33)) 37 (.int .i64 0) (.int .i64 0) (.int .u64 0) (.int .u64 0)
  rw [size1] at x2
  rw [size1, size1] at x3
  have hlt := rf0.lt
  have hO : ∀ b, O b → b < wr.heap.size := fun b hb => at0.sp.lt hb
  exact ⟨((at0.same b1).same b2).same b3, ((rf0.below b1).below b2).below b3, (x1.below b2).below b3, x2.below b3, x3, fun e => by have := hO _ e; omega, fun e => by have := hO _ e; omega, fun e => by have := hO _ e; omega, hlt, by omega, by omega, lo, fun h0 ad e => by have := rf0.logLt h0 ad e; omega⟩
theorem t30 {T k : Nat} (h : T ≤ k * 4194304) (hk : k ≤ 30) : T ≤ 125829120 := by omega
end Go.Proofs.Ytacognejefeboaa
