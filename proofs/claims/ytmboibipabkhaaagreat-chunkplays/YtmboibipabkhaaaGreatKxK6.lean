/-
  The document's answers for layer 3: the small functions.
-/
import Derived.Test.YtmboibipabkhaaaGreatKxK5
import Derived.Deep.DeepCutAuto
import Derived.Deep.Slices
import Derived.Deep.Fields
import Derived.Deep.AppendLies
import Derived.Deep.RegionHeld3
namespace Go.Proofs.YtmboibipabkhaaaGreat
open Go.ChangeShapes Go.WideShapes Go.ChangeAt Go.RowKit
set_option linter.unusedVariables false
set_option maxRecDepth 20000
theorem radd_any (a b : Nat) (ha : a < 18446744073709551616) (hb : b < 18446744073709551616) (w : World) :
  Calls Tryz.prog 119 #[.int .u64 a, .int .u64 b] w fun e w' => e = .returned (.tuple #[.int .u64 (M.addV a b : Nat), .bool (M.addB a b)]) ∧ w = w' := by
 have hw := wrapU ((a : Int) + b)
 have H := Lib.hid hw; clear hw
 go_enter Tryz.func119, Tryz.ntmps119
 go_wp2
 ·rename_i h
  go_ret2
  have := H.out
  have hlt : ¬ (a + b < 18446744073709551616) := by omega
  exact ⟨ret2 (by simp [M.addV, hlt]) (by simp [M.addB]; omega), rfl⟩
 ·rename_i h
  go_ret2
  have := H.out
  have hlt : a + b < 18446744073709551616 := by omega
  exact ⟨ret2 (by simp [M.addV, hlt] <;> omega) (by simp [M.addB]; omega), rfl⟩
theorem rin1_any (a b z : Nat) (ha : a < 18446744073709551616) (hb : b < 18446744073709551616) (w : World) :
  Calls Tryz.prog 105 #[.int .u64 a, .int .u64 b, .int .u64 z] w fun e w' => e = .returned (.bool (M.inB a b z)) ∧ w = w' := by
 go_enter Tryz.func105, Tryz.ntmps105
 go_wp2_with (go_at_call 119; refine (radd_any _ _ ha hb _).mono ?_; rintro e w' ⟨rfl, rfl⟩)
 all_goals go_ret
 all_goals exact ⟨retB (by simp [M.inB, *]), rfl⟩
abbrev refV (P : Nat) (A : Option Addr) (n c T : Nat) : Value := .agg #[.int .i64 (P : Int), .slice A n c, .int .i64 (T : Int)]
theorem rsize_any (w : World) (P : Nat) (A : Option Addr) (n c T : Nat) (hP : P ≤ 1048576) :
  Calls Tryz.prog 106 #[refV P A n c T] w fun e w' => e = .returned (.int .u64 ((P * 4096 : Nat) : Int)) ∧ Below w.heap.size w w' := by
 go_enter Tryz.func106, Tryz.ntmps106
 go_wp2
 go_ret
 exact ⟨ret1 (by omega), (Below.refl _ _).alloc (Nat.le_refl _) _⟩
theorem rin_any (w : World) (P : Nat) (A : Option Addr) (n c T : Nat) (hP : P ≤ 1048576) (a k : Nat) (ha : a < 18446744073709551616) (hk : k < 18446744073709551616) :
  Calls Tryz.prog 82 #[refV P A n c T, .int .u64 a, .int .u64 k] w fun e w' => e = .returned (.bool (M.inB a k (P * 4096))) ∧ Below w.heap.size w w' := by
 go_enter Tryz.func82, Tryz.ntmps82
 go_wp2_with fail
 refine (rsize_any _ P A n c T hP).mono ?_
 rintro e w1 ⟨rfl, b1⟩
 go_wp2_with fail
 refine (rin1_any _ _ _ ha hk _).mono ?_
 rintro e w' ⟨rfl, rfl⟩
 go_wp2
 go_ret
 exact ⟨rfl, below_call ((Below.refl _ _).alloc (Nat.le_refl _) _) b1⟩
theorem rtouched_any (a n : Nat) (h : a + n ≤ 4294967296) (w : World) :
  Calls Tryz.prog 84 #[.int .u64 a, .int .u64 n] w fun e w' => e = .returned (.int .i64 (M.touched a n : Nat)) ∧ w = w' := by
 by_cases h0 : n = 0
 ·subst h0
  go_enter Tryz.func84, Tryz.ntmps84
  go_wp2
  go_ret
  exact ⟨rfl, rfl⟩
 ·have i0 : ¬ ((n : Int) = 0) := by omega
  have h1 : 0 < n := by omega
  go_enter Tryz.func84, Tryz.ntmps84
  go_wp2
  go_ret
  refine ⟨ret1 ?_, rfl⟩
  unfold M.touched
  rw [if_neg h0]
  have e1 : ((a : Int) + n - 1) / 4096 = (((a + n - 1) / 4096 : Nat) : Int) := by omega
  omega
theorem rnew_any (x : Int) (P : Nat) (hP : (P : Int) = min (max x 1) 1048576) (w : World) :
  Calls Tryz.prog 26 #[.int .i64 x] w fun e w' => e = .returned (refV P none 0 0 0) ∧ Below w.heap.size w w' := by
 have HP := Lib.hid hP; clear hP
 go_enter Tryz.func26, Tryz.ntmps26
 go_wp2
 ·refine bodyPost_ret (v := .agg #[.int .i64 1, .slice none 0 0, .int .i64 0]) ?_ rfl ?_
  ·simp [results, go_sem]
  ·have hP := HP.out
   have e : (P : Int) = 1 := by omega
   exact ⟨by rw [refV, e]; rfl, (Below.refl _ _).alloc (Nat.le_refl _) _⟩
 ·refine bodyPost_ret (v := .agg #[.int .i64 1048576, .slice none 0 0, .int .i64 0]) ?_ rfl ?_
  ·simp [results, go_sem]
  ·have hP := HP.out
   have e : (P : Int) = 1048576 := by omega
   exact ⟨by rw [refV, e]; rfl, (Below.refl _ _).alloc (Nat.le_refl _) _⟩
 ·refine bodyPost_ret (v := .agg #[.int .i64 x, .slice none 0 0, .int .i64 0]) ?_ rfl ?_
  ·simp [results, go_sem]
  ·have hP := HP.out
   have e : (P : Int) = x := by omega
   exact ⟨by rw [refV, e]; rfl, (Below.refl _ _).alloc (Nat.le_refl _) _⟩
def entCells (e : M.Ent) : List Value := [.int .u64 (e.at' : Int), .int .u64 (e.n : Int), .string ⟨e.data.toArray⟩, .bool e.zero]
def logCells (l : List M.Ent) : List Value := l.flatMap entCells
theorem logCells_length (l : List M.Ent) : (logCells l).length = l.length * 4 := by
 induction l with
 | nil => rfl
 | cons e l ih =>
  have : logCells (e :: l) = entCells e ++ logCells l := rfl
  rw [this, List.length_append, ih]
  simp [entCells]
  omega
theorem logCells_at (l : List M.Ent) (i j : Nat) (hi : i < l.length) (hj : j < 4) : (logCells l)[i * 4 + j]? = (entCells l[i])[j]? := by
 induction l generalizing i with
 | nil => simp at hi
 | cons e l ih =>
  have he : logCells (e :: l) = entCells e ++ logCells l := rfl
  have hl : (entCells e).length = 4 := rfl
  rw [he]
  cases i with
  | zero => rw [Nat.zero_mul, Nat.zero_add, List.getElem?_append_left (by omega)]; rfl
  | succ i =>
   rw [List.getElem?_append_right (by omega), hl, show (i + 1) * 4 + j - 4 = i * 4 + j by omega, ih i (by simpa using hi)]
   rfl
theorem logCells_snoc (l : List M.Ent) (e : M.Ent) : logCells (l ++ [e]) = logCells l ++ entCells e := by simp [logCells]
theorem logCells_one (l : List M.Ent) : ∀ u ∈ logCells l, u.oneCell' = true := fun u hu => by
 obtain ⟨e, _, he⟩ := List.mem_flatMap.1 hu
 simp only [entCells, List.mem_cons, List.not_mem_nil, or_false] at he
 rcases he with rfl | rfl | rfl | rfl <;> rfl
def LogAt (w : World) (A : Option Addr) (l : List M.Ent) : Prop := Lies w A (logCells l)
def EntOk (e : M.Ent) : Prop := e.at' < 18446744073709551616 ∧ e.n < 18446744073709551616 ∧ (e.zero = false → e.data.length = e.n) ∧ e.data.length ≤ 1048576
structure IsEnt (w : World) (bl o : Nat) (e : M.Ent) : Prop where
 c0 : w.cell? ⟨bl, o, none⟩ = some (.int .u64 (e.at' : Int))
 c1 : w.cell? ⟨bl, o + 1, none⟩ = some (.int .u64 (e.n : Int))
 c2 : w.cell? ⟨bl, o + 2, none⟩ = some (.string ⟨e.data.toArray⟩)
 c3 : w.cell? ⟨bl, o + 3, none⟩ = some (.bool e.zero)
theorem LogAt.ents {w : World} {A : Option Addr} {l : List M.Ent} (h : LogAt w A l) (h0 : 0 < l.length) : ∃ bl o, A = some ⟨bl, o, none⟩ ∧ ∀ i (hi : i < l.length), IsEnt w bl (o + i * 4) l[i] := by
 obtain ⟨ad, e, hc⟩ := h (by rw [logCells_length]; omega)
 have hs : ad.spot = none := by
  have := hc 0 (by rw [logCells_length]; omega)
  rw [add_zero'] at this
  exact World.cell?_spot this
 obtain ⟨bl, o, sp⟩ := ad
 simp only at hs
 subst hs
 have adj : ∀ j, (⟨bl, o, none⟩ : Addr).add j = ⟨bl, o + j, none⟩ := fun j => by unfold Addr.add; split <;> simp_all
 refine ⟨bl, o, e, fun i hi => ?_⟩
 have get : ∀ j, j < 4 → w.cell? ⟨bl, o + (i * 4 + j), none⟩ = (entCells l[i])[j]? := fun j hj => by
  have hlt : i * 4 + j < (logCells l).length := by rw [logCells_length]; omega
  have := hc (i * 4 + j) hlt
  rw [adj] at this
  rw [this, ← logCells_at l i j hi hj, List.getElem?_eq_getElem hlt]
 have g0 := get 0 (by omega)
 have g1 := get 1 (by omega)
 have g2 := get 2 (by omega)
 have g3 := get 3 (by omega)
 exact ⟨by rw [Nat.add_zero] at g0; exact g0, by rw [← Nat.add_assoc] at g1; exact g1, by rw [← Nat.add_assoc] at g2; exact g2, by rw [← Nat.add_assoc] at g3; exact g3⟩
theorem byteUp_succ {l : List M.Ent} {k x : Nat} (h : k < l.length) : M.byteUp l (k + 1) x = if (l[k]).has x = true then (l[k]).byte x else M.byteUp l k x := by
 show (match l[k]? with | some e => if e.has x = true then e.byte x else M.byteUp l k x | none => M.byteUp l k x) = _
 rw [List.getElem?_eq_getElem h]
set_option maxHeartbeats 1000000 in
theorem rbyte_any (w : World) (P : Nat) (A : Option Addr) (n c T : Nat) (l : List M.Ent) (hn : n = l.length) (hl : LogAt w A l) (hok : ∀ e ∈ l, EntOk e) (hb : n ≤ 1000) (x : Nat) (hx : x < 18446744073709551616) :
  Calls Tryz.prog 114 #[refV P A n c T, .int .u64 x] w fun e w' => e = .returned (.int .u8 ((M.byteAt l x).toNat : Int)) ∧ Below w.heap.size w w' := by
 have HL := Lib.hid (show n = l.length ∧ LogAt w A l ∧ ∀ e ∈ l, EntOk e from ⟨hn, hl, hok⟩)
 clear hn hl hok
 go_enter Tryz.func114, Tryz.ntmps114
 go_wp2_with fail
 have hc1 := (World.cell?_alloc_mark w #[.int .i64 (P : Int), .slice A n c, .int .i64 (T : Int)] 28 (0, 0) 1)
 have B1 := Lib.hid ((Below.refl w.heap.size w).alloc (Nat.le_refl _) (.cells #[.int .i64 (P : Int), .slice A n c, .int .i64 (T : Int)] 28))
 have hz1 : (w.alloc (.cells #[.int .i64 (P : Int), .slice A n c, .int .i64 (T : Int)] 28)).heap.size = w.heap.size + 1 := by simp
 generalize hw1 : w.alloc (.cells #[.int .i64 (P : Int), .slice A n c, .int .i64 (T : Int)] 28) = w1 at *
 clear hw1
 generalize hkb : w.heap.size = hb0 at hc1 hz1 ⊢
 have HB := Lib.hid hkb
 clear hkb
 go_loopw [5] (fun i wr => ∃ k : Nat, k ≤ n ∧ i = .int .i64 ((k : Int) - 1) ∧ M.byteUp l k x = M.byteAt l x ∧ Below w1.heap.size w1 wr) (fun i _ => (intOf i + 1).toNat)
 case atStart => exact ⟨n, by omega, by go_num, by rw [HL.out.1]; rfl, Below.refl _ _⟩
 case round =>
  obtain ⟨k, hk, rfl, hup, hbl⟩ := hrel
  have cr : wr.cell? ⟨hb0, 1, none⟩ = some (.slice A n c) := (hbl.cell (p := ⟨hb0, 1, none⟩) (by show hb0 < _; omega)).trans hc1
  have BR := Lib.hid hbl
  have HU := Lib.hid hup
  clear hbl hup
  by_cases h0 : k = 0
  ·subst h0
   go_wp2_with fail
   go_ret
   have := HU.out
   exact ⟨by rw [← this]; rfl, B1.out.trans (BR.out.mono (by have := HB.out; omega))⟩
  ·obtain ⟨m, rfl⟩ : ∃ m, k = m + 1 := ⟨k - 1, by omega⟩
   have hml : m < l.length := by have := HL.out.1; omega
   obtain ⟨bl, o, rfl, hents⟩ := HL.out.2.1.ents (by omega)
   have he := hents m hml
   have hok := HL.out.2.2 l[m] (List.getElem_mem _)
   have hsucc := byteUp_succ (x := x) hml
   obtain ⟨e, hee⟩ : ∃ e, e = l[m] := ⟨_, rfl⟩
   rw [← hee] at he hok hsucc
   have hbw : Below w.heap.size w wr := B1.out.trans (BR.out.mono (by have := HB.out; omega))
   have c0 := (hbw.cell (lt_of_cell he.c0)).trans he.c0
   have c1 := (hbw.cell (lt_of_cell he.c1)).trans he.c1
   have c2 := (hbw.cell (lt_of_cell he.c2)).trans he.c2
   have c3 := (hbw.cell (lt_of_cell he.c3)).trans he.c3
   obtain ⟨k1, k2, k3, k4⟩ := hok
   have HS := Lib.hid (show M.byteUp l (m + 1) x = if e.has x = true then e.byte x else M.byteUp l m x from hsucc)
   have HW := Lib.hid hbw
   clear he hents hsucc hee hbw
   obtain ⟨ea, en, ed, ez⟩ := e
   simp only at k1 k2 k3 k4 c0 c1 c2 c3
   have hi : ((m + 1 : Nat) : Int) - 1 = (m : Int) := by omega
   have hmn : m < n := by omega
   by_cases h1 : ea ≤ x
   ·obtain ⟨d, hd⟩ : ∃ d : Nat, (x : Int) - (ea : Int) = (d : Int) := ⟨x - ea, by omega⟩
    have hd' : d = x - ea := by omega
    have hwd : IntKind.u64.wrap (d : Int) = (d : Int) := by rw [wrapU]; omega
    have HD := Lib.hid hd'
    clear hd'
    by_cases h2 : d < en
    ·have hhas : (M.Ent.mk ea en ed ez).has x = true := by have := HD.out; simp [M.Ent.has]; omega
     have hup := HU.out
     have hs := HS.out
     rw [if_pos hhas] at hs
     have hval : M.byteAt l x = (M.Ent.mk ea en ed ez).byte x := by rw [← hup, hs]
     have HV := Lib.hid hval
     clear hup hs hval hhas
     cases ez with
     | true =>
      go_wp2_with fail
      go_ret
      have hv := HV.out
      exact ⟨by rw [hv]; rfl, HW.out.alloc HW.out.size _⟩
     | false =>
      have hdl : d < ed.length := by have := k3 rfl; omega
      have hidx := fun W => index_str ed d hdl (d : Int) rfl W
      have hd63 : (d : Int) < 9223372036854775808 := by omega
      go_wp2_with fail
      go_ret
      have hv := HV.out
      have hdd := HD.out
      refine ⟨?_, HW.out.alloc HW.out.size _⟩
      rw [hv]
      unfold M.Ent.byte
      simp only [Bool.false_eq_true, if_false]
      rw [← hdd, List.getElem?_eq_getElem hdl]
      rfl
    ·have hhas : ¬ ((M.Ent.mk ea en ed ez).has x = true) := by have := HD.out; simp [M.Ent.has]; omega
     have hs := HS.out
     rw [if_neg hhas] at hs
     have HN := Lib.hid (hs.symm.trans HU.out)
     clear hs hhas
     go_wp2_with fail
     go_roundw
     case rel => exact ⟨m, by omega, by go_num, HN.out, BR.out.alloc BR.out.size _⟩
     case measure => simp [intOf]
   ·have hhas : ¬ ((M.Ent.mk ea en ed ez).has x = true) := by simp [M.Ent.has]; omega
    have hs := HS.out
    rw [if_neg hhas] at hs
    have HN := Lib.hid (hs.symm.trans HU.out)
    clear hs hhas
    go_wp2_with fail
    go_roundw
    case rel => exact ⟨m, by omega, by go_num, HN.out, BR.out.alloc BR.out.size _⟩
    case measure => simp [intOf]
set_option maxHeartbeats 1000000 in
theorem rbytes_any (w : World) (P : Nat) (A : Option Addr) (z c T : Nat) (l : List M.Ent) (hz : z = l.length) (hl : LogAt w A l) (hok : ∀ e ∈ l, EntOk e) (hb : z ≤ 1000) (a n : Nat) (ha : a + n ≤ 4294967296) (hn : n ≤ 1048576) :
  Calls Tryz.prog 93 #[refV P A z c T, .int .u64 a, .int .u64 n] w fun e w' => e = .returned (.string ⟨(M.rd (M.byteAt l) a n).toArray⟩) ∧ Below w.heap.size w w' := by
 have HL := Lib.hid (show z = l.length ∧ LogAt w A l ∧ ∀ e ∈ l, EntOk e from ⟨hz, hl, hok⟩)
 clear hz hl hok
 have mk := make22 n (n : Int) rfl (by omega)
 go_enter Tryz.func93, Tryz.ntmps93
 go_wp2_with fail
 have k1 := ((Kept.refl w (fun _ => False)).alloc (.cells #[.int .i64 (P : Int), .slice A z c, .int .i64 (T : Int)] 28)).alloc (.cells (madeCells #[.int .u8 0] n) 5)
 have o1 := own_made n (w.alloc (.cells #[.int .i64 (P : Int), .slice A z c, .int .i64 (T : Int)] 28))
 have z1 : (w.alloc (.cells #[.int .i64 (P : Int), .slice A z c, .int .i64 (T : Int)] 28)).heap.size = w.heap.size + 1 := by simp
 have z2 : ((w.alloc (.cells #[.int .i64 (P : Int), .slice A z c, .int .i64 (T : Int)] 28)).alloc (.cells (madeCells #[.int .u8 0] n) 5)).heap.size = w.heap.size + 2 := by simp
 have cs : ∀ j, ((w.alloc (.cells #[.int .i64 (P : Int), .slice A z c, .int .i64 (T : Int)] 28)).alloc (.cells (madeCells #[.int .u8 0] n) 5)).cell? ⟨w.heap.size, j, none⟩ = (#[.int .i64 (P : Int), .slice A z c, .int .i64 (T : Int)] : Array Value)[j]? := fun j => by
  rw [World.cell?_alloc_lt _ _ ⟨w.heap.size, j, none⟩ (by rw [z1]; show w.heap.size < _; omega), World.cell?_alloc_mark]
 have c0 := cs 0
 have c1 := cs 1
 have c2 := cs 2
 rw [z1] at o1
 clear cs z1 mk
 generalize hw1 : (w.alloc (.cells #[.int .i64 (P : Int), .slice A z c, .int .i64 (T : Int)] 28)).alloc (.cells (madeCells #[.int .u8 0] n) 5) = w1 at *
 clear hw1
 generalize hg : w.heap.size + 1 = g at o1 ⊢
 generalize hs : w.heap.size = sb at c0 c1 c2 ⊢
 have HB := Lib.hid (show sb = w.heap.size ∧ g = w.heap.size + 1 ∧ w1.heap.size = w.heap.size + 2 from ⟨hs.symm, hg.symm, z2⟩)
 have K1 := Lib.hid k1
 have O1 := Lib.hid o1
 clear hs hg z2 k1 o1
 go_loopw [8] (fun i wr => ∃ k : Nat, k ≤ n ∧ i = .int .i64 (k : Int) ∧ Own wr g (M.rd (M.byteAt l) a k ++ List.replicate (n - k) 0) ∧ Kept w1 wr (fun b => b = g)) (fun i _ => n - (intOf i).toNat)
 case atStart => exact ⟨0, by omega, rfl, by rw [M.rd_zero]; exact O1.out, Kept.refl _ _⟩
 case round =>
  obtain ⟨k, hk, rfl, ho, hkp⟩ := hrel
  have hgs : ¬ (sb = g) := by have := HB.out; omega
  have d0 := hkp.cell_some (p := ⟨sb, 0, none⟩) (c0.trans rfl) hgs
  have d1 := hkp.cell_some (p := ⟨sb, 1, none⟩) (c1.trans rfl) hgs
  have d2 := hkp.cell_some (p := ⟨sb, 2, none⟩) (c2.trans rfl) hgs
  have HO := Lib.hid ho
  have HK := Lib.hid hkp
  have bw : Below w.heap.size w wr := (K1.out.below (Nat.le_refl _) (fun _ h => h.elim)).trans (hkp.below (by have := HB.out; omega) (fun i e => by have := HB.out; omega))
  have BW := Lib.hid bw
  have hll : LogAt wr A l := Lies.below HL.out.2.1 bw
  have HLL := Lib.hid hll
  have hsl : sb < wr.heap.size := lt_of_cell d0
  clear ho hkp bw hll
  by_cases hlt : k < n
  ·obtain ⟨x, hx⟩ : ∃ x : Nat, (a : Int) + (k : Int) = (x : Int) := ⟨a + k, by omega⟩
   have HX := Lib.hid (show x = a + k by omega)
   have hx32 : x < 4294967296 := by omega
   go_wp2_with fail
   refine (rbyte_any wr P A z c T l HL.out.1 HLL.out HL.out.2.2 hb x (by omega)).mono ?_
   rintro e w3 ⟨rfl, b3⟩
   have hgl : g < wr.heap.size := HO.out.lt (by simp [M.rd_length]; omega)
   have o3 := HO.out.below hgl b3
   have kl : k < (M.rd (M.byteAt l) a k ++ List.replicate (n - k) 0).length := by simp [M.rd_length]; omega
   obtain ⟨v0, gc⟩ : ∃ v0, w3.cell? ⟨g, k, none⟩ = some (.int .u8 v0) := ⟨_, o3.1 k kl⟩
   have gf := o3.2 k kl
   have O3 := Lib.hid (o3.set k kl (M.byteAt l x))
   have K3 := Lib.hid ((HK.out.trans (Kept.of_below b3 (fun b => b = g)) (fun _ _ h => h)).setCell (p := ⟨g, k, none⟩) (fun _ => rfl) (.int .u8 ((M.byteAt l x).toNat : Int)))
   have KL := Lib.hid kl
   clear o3 b3 kl
   go_wp2_with fail
   go_roundw
   case rel =>
    refine ⟨k + 1, by omega, by go_num, ?_, K3.out⟩
    have := O3.out
    have e : (M.rd (M.byteAt l) a k ++ List.replicate (n - k) 0).set k (M.byteAt l x) = M.rd (M.byteAt l) a (k + 1) ++ List.replicate (n - (k + 1)) 0 := by
     rw [M.rd_add, HX.out, List.set_append_right _ _ (by rw [M.rd_length]; exact Nat.le_refl _), M.rd_length, Nat.sub_self, List.append_assoc]
     congr 1
     obtain ⟨q, hq⟩ : ∃ q, n - k = q + 1 := ⟨n - k - 1, by omega⟩
     rw [hq, show n - (k + 1) = q by omega]
     rfl
    rw [e] at this
    exact this
   case measure => simp [intOf]; omega
  ·obtain rfl : k = n := by omega
   have q := fun W (hW : W = wr) => conv_at W (some ⟨g, 0, none⟩) k (M.rd (M.byteAt l) a k) k (M.rd_length _ _ _).symm (by
    have := HO.out
    rw [Nat.sub_self, List.replicate_zero, List.append_nil] at this
    rw [hW]
    exact this.lies)
   have q := q wr rfl
   go_wp2
   go_ret
   exact ⟨rfl, BW.out⟩
abbrev entV (e : M.Ent) : Value := .agg #[.int .u64 (e.at' : Int), .int .u64 (e.n : Int), .string ⟨e.data.toArray⟩, .bool e.zero]
theorem row74 : ∃ i, Tryz.prog.info? 149 = some i ∧ i.zero = some (.agg #[.int .u64 0, .int .u64 0, .string ⟨#[]⟩, .bool false]) ∧ i.size = 4 ∧ i.bytes = 40 :=
 info_parts (P := Tryz.prog) (e := 149) (z := .agg #[.int .u64 0, .int .u64 0, .string ⟨#[]⟩, .bool false]) (size := 4) (bytes := 40) (by kernel_rfl)
theorem log_of_row {w : World} {base g n cap : Nat} {l : List M.Ent} (h : w.ownsRow base 149 4 (.slice (some ⟨g, 0, none⟩) n cap) n (logCells l)) : LogAt w (some ⟨g, 0, none⟩) l := fun hn => by
 refine ⟨_, rfl, fun j hj => ?_⟩
 exact h.cells (g := g) rfl j _ (List.getElem?_eq_getElem hj)
theorem put_world (w : World) (S E R : Array Value) :
  let W := ((w.alloc (.cells S 28)).alloc (.cells E 149)).alloc (.cells R 28)
  (∀ j, W.cell? ⟨w.heap.size, j, none⟩ = S[j]?) ∧ (∀ j, W.cell? ⟨w.heap.size + 1, j, none⟩ = E[j]?) ∧ (∀ j, W.cell? ⟨w.heap.size + 1 + 1, j, none⟩ = R[j]?) ∧ (∀ j, W.frozen? ⟨w.heap.size, j, none⟩ = false) ∧ (∀ j, W.frozen? ⟨w.heap.size + 1 + 1, j, none⟩ = false) ∧
   W.heap.size = w.heap.size + 3 ∧ Kept w W (fun _ => False) := by
 intro W
 have z1 : (w.alloc (.cells S 28)).heap.size = w.heap.size + 1 := by simp
 have z2 : ((w.alloc (.cells S 28)).alloc (.cells E 149)).heap.size = w.heap.size + 1 + 1 := by simp
 have z3 : W.heap.size = w.heap.size + 3 := by show (World.alloc _ _).heap.size = _; simp
 have b0 : W.heap[w.heap.size]? = (w.alloc (.cells S 28)).heap[w.heap.size]? := by
  show (World.alloc _ _).heap[w.heap.size]? = _
  rw [Below.heap_alloc _ _ _ (by rw [z2]; omega), Below.heap_alloc _ _ _ (by rw [z1]; omega)]
 have b1 : W.heap[w.heap.size + 1]? = ((w.alloc (.cells S 28)).alloc (.cells E 149)).heap[w.heap.size + 1]? := by
  show (World.alloc _ _).heap[w.heap.size + 1]? = _
  rw [Below.heap_alloc _ _ _ (by rw [z2]; omega)]
 refine ⟨fun j => ?_, fun j => ?_, fun j => ?_, fun j => ?_, fun j => ?_, z3, (((Kept.refl w (fun _ => False)).alloc _).alloc _).alloc _⟩
 ·rw [World.cell?_of_block (a := ⟨w.heap.size, j, none⟩) b0, World.cell?_alloc_mark]
 ·rw [World.cell?_of_block (a := ⟨w.heap.size + 1, j, none⟩) b1]
  have := World.cell?_alloc_mark (w.alloc (.cells S 28)) E 149 (0, 0) j
  rw [z1] at this
  exact this
 ·have := World.cell?_alloc_mark ((w.alloc (.cells S 28)).alloc (.cells E 149)) R 28 (0, 0) j
  rw [z2] at this
  exact this
 ·rw [World.frozen?_of_block (a := ⟨w.heap.size, j, none⟩) b0, World.frozen?_alloc_mark]
  simp
 ·have := World.frozen?_alloc_mark ((w.alloc (.cells S 28)).alloc (.cells E 149)) R 28 0 0 j
  rw [z2] at this
  rw [this]
  simp
set_option maxHeartbeats 1000000 in
theorem rput_none (w : World) (P : Nat)  (T tk : Nat) (l : List M.Ent) (e : M.Ent) (hn : l = []) (hT : T + tk < 9223372036854775808) :
  Calls Tryz.prog 83 #[refV P none 0 0 T, entV e, .int .i64 (tk : Int)] w fun r w' => ∃ g c', r = .returned (refV P (some ⟨g, 0, none⟩) (0 + 1) c' (T + tk)) ∧ LogAt w' (some ⟨g, 0, none⟩) (l ++ [e]) ∧ w.heap.size ≤ g ∧ g < w'.heap.size ∧ Below w.heap.size w w' := by
 obtain ⟨i, hi, hz, h1, h2⟩ := row74
 have HI := Lib.hid (show _ ∧ _ ∧ _ ∧ _ from ⟨hi, hz, h1, h2⟩)
 clear hi hz h1 h2
 subst hn
 obtain ⟨ea, en, ed, ez⟩ := e
 have HE := Lib.hid (show entCells ⟨ea, en, ed, ez⟩ = [.int .u64 (ea : Int), .int .u64 (en : Int), .string ⟨ed.toArray⟩, .bool ez] from rfl)
 simp only [entV]
 go_enter Tryz.func83, Tryz.ntmps83
 go_upto_region 2 with fail
 obtain ⟨f0, f1, f2, f3, f4, f5, f6⟩ := put_world w #[.int .i64 (P : Int), .slice none 0 0, .int .i64 (T : Int)] #[.int .u64 (ea : Int), .int .u64 (en : Int), .string ⟨ed.toArray⟩, .bool ez] #[.int .i64 0, .slice none 0 0, .int .i64 0]
 generalize hw3 : ((w.alloc (.cells #[.int .i64 (P : Int), .slice none 0 0, .int .i64 (T : Int)] 28)).alloc (.cells #[.int .u64 (ea : Int), .int .u64 (en : Int), .string ⟨ed.toArray⟩, .bool ez] 149)).alloc (.cells #[.int .i64 0, .slice none 0 0, .int .i64 0] 28) = w3 at *
 clear hw3
 generalize hb3 : w.heap.size + 1 + 1 = b3 at f2 f4 ⊢
 generalize hb2 : w.heap.size + 1 = b2 at f1 ⊢
 generalize hb1 : w.heap.size = b1 at f0 f3 ⊢
 have HB := Lib.hid (show b1 = w.heap.size ∧ b2 = w.heap.size + 1 ∧ b3 = w.heap.size + 2 ∧ w3.heap.size = w.heap.size + 3 from ⟨hb1.symm, hb2.symm, by omega, f5⟩)
 have hb12 : b1 < b2 := by omega
 have hb23 : b2 < b3 := by omega
 have hb3l : b3 < w3.heap.size := by omega
 have K3 := Lib.hid f6
 clear hb1 hb2 hb3 f5 f6
 have HF := Lib.hid (show (∀ j, w3.cell? ⟨b1, j, none⟩ = _) ∧ (∀ j, w3.cell? ⟨b2, j, none⟩ = _) ∧ (∀ j, w3.cell? ⟨b3, j, none⟩ = _) ∧ (∀ j, w3.frozen? ⟨b1, j, none⟩ = false) ∧ (∀ j, w3.frozen? ⟨b3, j, none⟩ = false) from ⟨f0, f1, f2, f3, f4⟩)
 have g10 : w3.cell? ⟨b1, 1, none⟩ = some (.slice none 0 0) := f0 1
 clear f0 f1 f2 f3 f4
 go_upto_region 3 with fail
 obtain ⟨w4, hw4⟩ : ∃ w4, w4 = w3 := ⟨_, rfl⟩
 have HG1 := Lib.hid (show True ∧ Kept w3 w4 (fun _ => False) ∧ w4.ownsRow w.heap.size 149 4 (.slice none 0 0) 0 (logCells []) from ⟨trivial, by rw [hw4]; exact Kept.refl _ _, World.ownsRow_nil _ _ _ _⟩)
 rw [← hw4]
 clear hw4 g10
 have hk4 := HG1.out.2.1
 have e20 : w4.cell? ⟨b2, 0, none⟩ = some (.int .u64 (ea : Int)) := hk4.cell_some (HF.out.2.1 0) (fun h => h)
 have e21 : w4.cell? ⟨b2, 1, none⟩ = some (.int .u64 (en : Int)) := hk4.cell_some (HF.out.2.1 1) (fun h => h)
 have e22 : w4.cell? ⟨b2, 2, none⟩ = some (.string ⟨ed.toArray⟩) := hk4.cell_some (HF.out.2.1 2) (fun h => h)
 have e23 : w4.cell? ⟨b2, 3, none⟩ = some (.bool ez) := hk4.cell_some (HF.out.2.1 3) (fun h => h)
 have hb4 : b3 < w4.heap.size := Nat.lt_of_lt_of_le hb3l hk4.size
 obtain ⟨lit, hlit⟩ : ∃ lit, lit = Obj.cells #[.int .u64 (ea : Int), .int .u64 (en : Int), .string ⟨ed.toArray⟩, .bool ez] 149 := ⟨_, rfl⟩
 have hnew2 : ∀ j u, (entCells ⟨ea, en, ed, ez⟩)[j]? = some u → (w4.alloc (.cells #[.int .u64 (ea : Int), .int .u64 (en : Int), .string ⟨ed.toArray⟩, .bool ez] 149)).cell? ((⟨w4.heap.size, 0, none⟩ : Addr).add j) = some u := fun j u hu => by
  rw [show (⟨w4.heap.size, 0, none⟩ : Addr).add j = ⟨w4.heap.size, j, none⟩ by unfold Addr.add; split <;> simp_all, World.cell?_alloc_mark, ← hu]
  simp [entCells]
 have HN2 := Lib.hid hnew2
 have HR2 := Lib.hid (HG1.out.2.2.alloc (.cells #[.int .u64 (ea : Int), .int .u64 (en : Int), .string ⟨ed.toArray⟩, .bool ez] 149))
 have hbase4 : w.heap.size ≤ (w4.alloc (.cells #[.int .u64 (ea : Int), .int .u64 (en : Int), .string ⟨ed.toArray⟩, .bool ez] 149)).heap.size := by have := HB.out; simp; omega
 clear hk4 hnew2 hlit
 go_wp2_with (first | (at_builtin; refine wpList_append_lies _ rfl _ _ 26 rfl w.heap.size 149 i (.agg #[.int .u64 0, .int .u64 0, .string ⟨#[]⟩, .bool false]) 4 40 Tryz.underlying26 HI.out.1 HI.out.2.1 HI.out.2.2.1 HI.out.2.2.2 rfl (by decide) (.slice none 0 0) 0 (logCells []) rfl HR2.out ⟨w4.heap.size, 0, none⟩ 1 1 (entCells ⟨ea, en, ed, ez⟩) rfl rfl HN2.out (by have := logCells_one [⟨ea, en, ed, ez⟩]; simpa [logCells] using this) (by decide) (by unfold maxLen; omega) (by omega) hbase4 _ rfl ?_; intro g2 c2 w6 hrow hgr hat hlt; (have k6 : Kept w3 w6 (fun _ => False) := (HG1.out.2.1.alloc _).grown hgr (fun b e hb => by simp [Value.ownBlock] at e)); (have p10 : w6.cell? ⟨b1, 0, none⟩ = some (.int .i64 (P : Int)) := k6.cell_some (HF.out.1 0) (fun h => h)); (have p11 : w6.cell? ⟨b1, 1, none⟩ = some (.slice none 0 0) := k6.cell_some (HF.out.1 1) (fun h => h)); (have p12 : w6.cell? ⟨b1, 2, none⟩ = some (.int .i64 (T : Int)) := k6.cell_some (HF.out.1 2) (fun h => h)); (have p30 : w6.cell? ⟨b3, 0, none⟩ = some (.int .i64 0) := k6.cell_some (HF.out.2.2.1 0) (fun h => h)); (have p31 : w6.cell? ⟨b3, 1, none⟩ = some (.slice none 0 0) := k6.cell_some (HF.out.2.2.1 1) (fun h => h)); (have p32 : w6.cell? ⟨b3, 2, none⟩ = some (.int .i64 0) := k6.cell_some (HF.out.2.2.1 2) (fun h => h)); (have q1 : ∀ j, w6.frozen? ⟨b1, j, none⟩ = false := fun j => (k6.frozen (p := ⟨b1, j, none⟩) (by show b1 < _; omega) (fun h => h)).trans (HF.out.2.2.2.1 j)); (have q3 : ∀ j, w6.frozen? ⟨b3, j, none⟩ = false := fun j => (k6.frozen (p := ⟨b3, j, none⟩) hb3l (fun h => h)).trans (HF.out.2.2.2.2 j)); (have hsum : wrap64 ((T : Int) + (tk : Int)) = ((T + tk : Nat) : Int) := by unfold wrap64; omega); (have HH := Lib.hid (show _ ∧ _ ∧ _ ∧ _ from ⟨hrow, hat, hlt, k6⟩)); clear hrow hgr hat hlt k6 e20 e21 e22 e23) | go_in)
 refine bodyPost_ret (v := .agg #[.int .i64 (P : Int), .slice (some ⟨g2, 0, none⟩) (1) c2, .int .i64 ((T : Int) + (tk : Int))]) ?_ rfl ?_
 ·have n13 : b1 ≠ b3 := by omega
  simp [results, go_sem, p30, p31, p32]
 ·obtain ⟨hrow, hat, hlt, k6⟩ := HH.out
  have k7 : ∀ v1 v2 v3 v4 v5, Kept w6 (((((w6.setCell ⟨b1, 1, none⟩ v1).setCell ⟨b1, 2, none⟩ v2).setCell ⟨b3, 0, none⟩ v3).setCell ⟨b3, 1, none⟩ v4).setCell ⟨b3, 2, none⟩ v5) (fun b => b = b1 ∨ b = b3) := fun v1 v2 v3 v4 v5 =>
   (((((Kept.refl w6 (fun b => b = b1 ∨ b = b3)).setCell (p := ⟨b1, 1, none⟩) (fun _ => Or.inl rfl) v1).setCell (p := ⟨b1, 2, none⟩) (fun _ => Or.inl rfl) v2).setCell (p := ⟨b3, 0, none⟩) (fun _ => Or.inr rfl) v3).setCell (p := ⟨b3, 1, none⟩) (fun _ => Or.inr rfl) v4).setCell (p := ⟨b3, 2, none⟩) (fun _ => Or.inr rfl) v5
  have hk7 := k7 (.slice (some ⟨g2, 0, none⟩) (1) c2) (.int .i64 ((T : Int) + (tk : Int))) (.int .i64 (P : Int)) (.slice (some ⟨g2, 0, none⟩) (1) c2) (.int .i64 ((T : Int) + (tk : Int)))
  have z4 := HG1.out.2.1.size
  have hbb := HB.out
  have z5 : (w4.alloc (.cells #[.int .u64 (ea : Int), .int .u64 (en : Int), .string ⟨ed.toArray⟩, .bool ez] 149)).heap.size = w4.heap.size + 1 := by simp
  have hg2 : w3.heap.size ≤ g2 := by
   rcases hat with h | h
   ·simp [Value.ownBlock] at h
   ·omega
  have hlog : LogAt w6 (some ⟨g2, 0, none⟩) ([⟨ea, en, ed, ez⟩]) := by
   have hrow : w6.ownsRow w.heap.size 149 4 (.slice (some ⟨g2, 0, none⟩) 1 c2) 1 (logCells [⟨ea, en, ed, ez⟩]) := hrow
   exact log_of_row hrow
  refine ⟨g2, c2, by simp [refV], hk7.lies hlog (fun _ ad e h => ?_), by omega, Nat.lt_of_lt_of_le hlt hk7.size, ?_⟩
  ·injection e with e
   rw [← e] at h
   have h : g2 = b1 ∨ g2 = b3 := h
   omega
  ·have b6 : Below w.heap.size w w6 := (K3.out.below (Nat.le_refl _) (fun _ h => h.elim)).trans (k6.below (by omega) (fun _ h => h.elim))
   exact b6.trans (hk7.below b6.size (fun i e => by omega))
set_option maxHeartbeats 1000000 in
theorem rput_some (w : World) (P : Nat) (A : Option Addr) (n c : Nat) (T tk : Nat) (l : List M.Ent) (e : M.Ent) (hn : n = l.length) (hl : LogAt w A l) (hb : n ≤ 1000) (h0 : 0 < n) (hT : T + tk < 9223372036854775808) :
  Calls Tryz.prog 83 #[refV P A n c T, entV e, .int .i64 (tk : Int)] w fun r w' => ∃ g c', r = .returned (refV P (some ⟨g, 0, none⟩) (n + 1) c' (T + tk)) ∧ LogAt w' (some ⟨g, 0, none⟩) (l ++ [e]) ∧ w.heap.size ≤ g ∧ g < w'.heap.size ∧ Below w.heap.size w w' := by
 obtain ⟨i, hi, hz, h1, h2⟩ := row74
 have HI := Lib.hid (show _ ∧ _ ∧ _ ∧ _ from ⟨hi, hz, h1, h2⟩)
 clear hi hz h1 h2
 obtain ⟨ad, rfl, hcl⟩ := hl (by rw [logCells_length]; omega)
 have hcl' : ∀ j u, (logCells l)[j]? = some u → w.cell? (ad.add j) = some u := fun j u hu => by
  obtain ⟨hj, e⟩ := List.getElem?_eq_some_iff.1 hu
  rw [hcl j hj, e]
 have hadl : ad.block < w.heap.size := by
  have := lt_of_cell (hcl 0 (by rw [logCells_length]; omega))
  rwa [block_of_add] at this
 have HC := Lib.hid hcl'
 have hll : (logCells l).length = n * 4 := by rw [logCells_length, hn]
 have HLL := Lib.hid hll
 clear hcl hcl' hl hn hll
 obtain ⟨ea, en, ed, ez⟩ := e
 have HE := Lib.hid (show entCells ⟨ea, en, ed, ez⟩ = [.int .u64 (ea : Int), .int .u64 (en : Int), .string ⟨ed.toArray⟩, .bool ez] from rfl)
 simp only [entV]
 go_enter Tryz.func83, Tryz.ntmps83
 go_upto_region 2 with fail
 obtain ⟨f0, f1, f2, f3, f4, f5, f6⟩ := put_world w #[.int .i64 (P : Int), .slice (some ad) n c, .int .i64 (T : Int)] #[.int .u64 (ea : Int), .int .u64 (en : Int), .string ⟨ed.toArray⟩, .bool ez] #[.int .i64 0, .slice none 0 0, .int .i64 0]
 generalize hw3 : ((w.alloc (.cells #[.int .i64 (P : Int), .slice (some ad) n c, .int .i64 (T : Int)] 28)).alloc (.cells #[.int .u64 (ea : Int), .int .u64 (en : Int), .string ⟨ed.toArray⟩, .bool ez] 149)).alloc (.cells #[.int .i64 0, .slice none 0 0, .int .i64 0] 28) = w3 at *
 clear hw3
 generalize hb3 : w.heap.size + 1 + 1 = b3 at f2 f4 ⊢
 generalize hb2 : w.heap.size + 1 = b2 at f1 ⊢
 generalize hb1 : w.heap.size = b1 at f0 f3 ⊢
 have HB := Lib.hid (show b1 = w.heap.size ∧ b2 = w.heap.size + 1 ∧ b3 = w.heap.size + 2 ∧ w3.heap.size = w.heap.size + 3 from ⟨hb1.symm, hb2.symm, by omega, f5⟩)
 have hb12 : b1 < b2 := by omega
 have hb23 : b2 < b3 := by omega
 have hb3l : b3 < w3.heap.size := by omega
 have K3 := Lib.hid f6
 clear hb1 hb2 hb3 f5 f6
 have HF := Lib.hid (show (∀ j, w3.cell? ⟨b1, j, none⟩ = _) ∧ (∀ j, w3.cell? ⟨b2, j, none⟩ = _) ∧ (∀ j, w3.cell? ⟨b3, j, none⟩ = _) ∧ (∀ j, w3.frozen? ⟨b1, j, none⟩ = false) ∧ (∀ j, w3.frozen? ⟨b3, j, none⟩ = false) from ⟨f0, f1, f2, f3, f4⟩)
 have g10 : w3.cell? ⟨b1, 1, none⟩ = some (.slice (some ad) n c) := f0 1
 clear f0 f1 f2 f3 f4
 have hnews : ∀ j u, (logCells l)[j]? = some u → w3.cell? (ad.add j) = some u := fun j u hu => K3.out.cell_some (HC.out j u hu) (fun h => h)
 have HNW := Lib.hid hnews
 clear hnews
 go_upto_region 3 with (first | (at_builtin; refine wpList_append_lies _ rfl _ _ 26 rfl w.heap.size 149 i (.agg #[.int .u64 0, .int .u64 0, .string ⟨#[]⟩, .bool false]) 4 40 Tryz.underlying26 HI.out.1 HI.out.2.1 HI.out.2.2.1 HI.out.2.2.2 rfl (by decide) (.slice none 0 0) 0 [] rfl (World.ownsRow_nil _ _ _ _) ad n c (logCells l) rfl HLL.out HNW.out (logCells_one l) h0 (by unfold maxLen; omega) (by omega) (by have := HB.out; omega) _ rfl ?_; intro g1 c1 w4 hrow hgr hat hlt) | go_in)
 simp only [Nat.zero_add, List.nil_append] at hrow ⊢
 have hg1 : g1 = w3.heap.size := by
  rcases hat with h | h
  ·simp [Value.ownBlock] at h
  ·exact h
 have k4 : Kept w3 w4 (fun _ => False) := (Kept.refl w3 (fun _ => False)).grown hgr (fun b e _ => by simp [Value.ownBlock] at e)
 have HG1 := Lib.hid (show g1 = w3.heap.size ∧ Kept w3 w4 (fun _ => False) ∧ w4.ownsRow w.heap.size 149 4 (.slice (some ⟨g1, 0, none⟩) n c1) n (logCells l) from ⟨hg1, k4, hrow⟩)
 clear hrow hgr hat hlt hg1 k4 g10
 have hk4 := HG1.out.2.1
 have e20 : w4.cell? ⟨b2, 0, none⟩ = some (.int .u64 (ea : Int)) := hk4.cell_some (HF.out.2.1 0) (fun h => h)
 have e21 : w4.cell? ⟨b2, 1, none⟩ = some (.int .u64 (en : Int)) := hk4.cell_some (HF.out.2.1 1) (fun h => h)
 have e22 : w4.cell? ⟨b2, 2, none⟩ = some (.string ⟨ed.toArray⟩) := hk4.cell_some (HF.out.2.1 2) (fun h => h)
 have e23 : w4.cell? ⟨b2, 3, none⟩ = some (.bool ez) := hk4.cell_some (HF.out.2.1 3) (fun h => h)
 have hb4 : b3 < w4.heap.size := Nat.lt_of_lt_of_le hb3l hk4.size
 obtain ⟨lit, hlit⟩ : ∃ lit, lit = Obj.cells #[.int .u64 (ea : Int), .int .u64 (en : Int), .string ⟨ed.toArray⟩, .bool ez] 149 := ⟨_, rfl⟩
 have hnew2 : ∀ j u, (entCells ⟨ea, en, ed, ez⟩)[j]? = some u → (w4.alloc (.cells #[.int .u64 (ea : Int), .int .u64 (en : Int), .string ⟨ed.toArray⟩, .bool ez] 149)).cell? ((⟨w4.heap.size, 0, none⟩ : Addr).add j) = some u := fun j u hu => by
  rw [show (⟨w4.heap.size, 0, none⟩ : Addr).add j = ⟨w4.heap.size, j, none⟩ by unfold Addr.add; split <;> simp_all, World.cell?_alloc_mark, ← hu]
  simp [entCells]
 have HN2 := Lib.hid hnew2
 have HR2 := Lib.hid (HG1.out.2.2.alloc (.cells #[.int .u64 (ea : Int), .int .u64 (en : Int), .string ⟨ed.toArray⟩, .bool ez] 149))
 have hbase4 : w.heap.size ≤ (w4.alloc (.cells #[.int .u64 (ea : Int), .int .u64 (en : Int), .string ⟨ed.toArray⟩, .bool ez] 149)).heap.size := by have := HB.out; simp; omega
 clear hk4 hnew2 hlit
 go_wp2_with (first | (at_builtin; refine wpList_append_lies _ rfl _ _ 26 rfl w.heap.size 149 i (.agg #[.int .u64 0, .int .u64 0, .string ⟨#[]⟩, .bool false]) 4 40 Tryz.underlying26 HI.out.1 HI.out.2.1 HI.out.2.2.1 HI.out.2.2.2 rfl (by decide) (.slice (some ⟨g1, 0, none⟩) n c1) n (logCells l) rfl HR2.out ⟨w4.heap.size, 0, none⟩ 1 1 (entCells ⟨ea, en, ed, ez⟩) rfl rfl HN2.out (by have := logCells_one [⟨ea, en, ed, ez⟩]; simpa [logCells] using this) (by decide) (by unfold maxLen; omega) (by omega) hbase4 _ rfl ?_; intro g2 c2 w6 hrow hgr hat hlt; (have k6 : Kept w3 w6 (fun _ => False) := (HG1.out.2.1.alloc _).grown hgr (fun b e hb => by have h1 := HG1.out.1; simp [Value.ownBlock] at e; omega)); (have p10 : w6.cell? ⟨b1, 0, none⟩ = some (.int .i64 (P : Int)) := k6.cell_some (HF.out.1 0) (fun h => h)); (have p11 : w6.cell? ⟨b1, 1, none⟩ = some (.slice (some ad) n c) := k6.cell_some (HF.out.1 1) (fun h => h)); (have p12 : w6.cell? ⟨b1, 2, none⟩ = some (.int .i64 (T : Int)) := k6.cell_some (HF.out.1 2) (fun h => h)); (have p30 : w6.cell? ⟨b3, 0, none⟩ = some (.int .i64 0) := k6.cell_some (HF.out.2.2.1 0) (fun h => h)); (have p31 : w6.cell? ⟨b3, 1, none⟩ = some (.slice none 0 0) := k6.cell_some (HF.out.2.2.1 1) (fun h => h)); (have p32 : w6.cell? ⟨b3, 2, none⟩ = some (.int .i64 0) := k6.cell_some (HF.out.2.2.1 2) (fun h => h)); (have q1 : ∀ j, w6.frozen? ⟨b1, j, none⟩ = false := fun j => (k6.frozen (p := ⟨b1, j, none⟩) (by show b1 < _; omega) (fun h => h)).trans (HF.out.2.2.2.1 j)); (have q3 : ∀ j, w6.frozen? ⟨b3, j, none⟩ = false := fun j => (k6.frozen (p := ⟨b3, j, none⟩) hb3l (fun h => h)).trans (HF.out.2.2.2.2 j)); (have hsum : wrap64 ((T : Int) + (tk : Int)) = ((T + tk : Nat) : Int) := by unfold wrap64; omega); (have HH := Lib.hid (show _ ∧ _ ∧ _ ∧ _ from ⟨hrow, hat, hlt, k6⟩)); clear hrow hgr hat hlt k6 e20 e21 e22 e23) | go_in)
 refine bodyPost_ret (v := .agg #[.int .i64 (P : Int), .slice (some ⟨g2, 0, none⟩) (n + 1) c2, .int .i64 ((T : Int) + (tk : Int))]) ?_ rfl ?_
 ·have n13 : b1 ≠ b3 := by omega
  simp [results, go_sem, p30, p31, p32]
 ·obtain ⟨hrow, hat, hlt, k6⟩ := HH.out
  have k7 : ∀ v1 v2 v3 v4 v5, Kept w6 (((((w6.setCell ⟨b1, 1, none⟩ v1).setCell ⟨b1, 2, none⟩ v2).setCell ⟨b3, 0, none⟩ v3).setCell ⟨b3, 1, none⟩ v4).setCell ⟨b3, 2, none⟩ v5) (fun b => b = b1 ∨ b = b3) := fun v1 v2 v3 v4 v5 =>
   (((((Kept.refl w6 (fun b => b = b1 ∨ b = b3)).setCell (p := ⟨b1, 1, none⟩) (fun _ => Or.inl rfl) v1).setCell (p := ⟨b1, 2, none⟩) (fun _ => Or.inl rfl) v2).setCell (p := ⟨b3, 0, none⟩) (fun _ => Or.inr rfl) v3).setCell (p := ⟨b3, 1, none⟩) (fun _ => Or.inr rfl) v4).setCell (p := ⟨b3, 2, none⟩) (fun _ => Or.inr rfl) v5
  have hk7 := k7 (.slice (some ⟨g2, 0, none⟩) (n + 1) c2) (.int .i64 ((T : Int) + (tk : Int))) (.int .i64 (P : Int)) (.slice (some ⟨g2, 0, none⟩) (n + 1) c2) (.int .i64 ((T : Int) + (tk : Int)))
  have z4 := HG1.out.2.1.size
  have hbb := HB.out
  have z5 : (w4.alloc (.cells #[.int .u64 (ea : Int), .int .u64 (en : Int), .string ⟨ed.toArray⟩, .bool ez] 149)).heap.size = w4.heap.size + 1 := by simp
  have hg2 : w3.heap.size ≤ g2 := by
   rcases hat with h | h
   ·simp [Value.ownBlock] at h; have := HG1.out.1; omega
   ·omega
  have hlog : LogAt w6 (some ⟨g2, 0, none⟩) (l ++ [⟨ea, en, ed, ez⟩]) := by
   rw [← logCells_snoc] at hrow
   exact log_of_row hrow
  refine ⟨g2, c2, by simp [refV], hk7.lies hlog (fun _ ad e h => ?_), by omega, Nat.lt_of_lt_of_le hlt hk7.size, ?_⟩
  ·injection e with e
   rw [← e] at h
   have h : g2 = b1 ∨ g2 = b3 := h
   omega
  ·have b6 : Below w.heap.size w w6 := (K3.out.below (Nat.le_refl _) (fun _ h => h.elim)).trans (k6.below (by omega) (fun _ h => h.elim))
   exact b6.trans (hk7.below b6.size (fun i e => by omega))
theorem rput_any (w : World) (P : Nat) (A : Option Addr) (n c T tk : Nat) (l : List M.Ent) (e : M.Ent) (hn : n = l.length) (hl : LogAt w A l) (hb : n ≤ 1000) (h0 : n = 0 → A = none ∧ c = 0) (hT : T + tk < 9223372036854775808) :
  Calls Tryz.prog 83 #[refV P A n c T, entV e, .int .i64 (tk : Int)] w fun r w' => ∃ g c', r = .returned (refV P (some ⟨g, 0, none⟩) (n + 1) c' (T + tk)) ∧ LogAt w' (some ⟨g, 0, none⟩) (l ++ [e]) ∧ w.heap.size ≤ g ∧ g < w'.heap.size ∧ Below w.heap.size w w' := by
 by_cases hz : n = 0
 ·obtain ⟨rfl, rfl⟩ := h0 hz
  subst hz
  have hl0 : l = [] := List.eq_nil_of_length_eq_zero hn.symm
  subst hl0
  exact rput_none w P T tk [] e rfl hT
 ·exact rput_some w P A n c T tk l e hn hl hb (by omega) hT
theorem two_world (w : World) (S R : Array Value) :
  let W := (w.alloc (.cells S 28)).alloc (.cells R 28)
  (∀ j, W.cell? ⟨w.heap.size, j, none⟩ = S[j]?) ∧ (∀ j, W.cell? ⟨w.heap.size + 1, j, none⟩ = R[j]?) ∧ (∀ j, W.frozen? ⟨w.heap.size, j, none⟩ = false) ∧ (∀ j, W.frozen? ⟨w.heap.size + 1, j, none⟩ = false) ∧
   W.heap.size = w.heap.size + 2 ∧ Kept w W (fun _ => False) := by
 intro W
 have z1 : (w.alloc (.cells S 28)).heap.size = w.heap.size + 1 := by simp
 have z3 : W.heap.size = w.heap.size + 2 := by show (World.alloc _ _).heap.size = _; simp
 have b0 : W.heap[w.heap.size]? = (w.alloc (.cells S 28)).heap[w.heap.size]? := by
  show (World.alloc _ _).heap[w.heap.size]? = _
  rw [Below.heap_alloc _ _ _ (by rw [z1]; omega)]
 refine ⟨fun j => ?_, fun j => ?_, fun j => ?_, fun j => ?_, z3, ((Kept.refl w (fun _ => False)).alloc _).alloc _⟩
 ·rw [World.cell?_of_block (a := ⟨w.heap.size, j, none⟩) b0, World.cell?_alloc_mark]
 ·have := World.cell?_alloc_mark (w.alloc (.cells S 28)) R 28 (0, 0) j
  rw [z1] at this
  exact this
 ·rw [World.frozen?_of_block (a := ⟨w.heap.size, j, none⟩) b0, World.frozen?_alloc_mark]
  simp
 ·have := World.frozen?_alloc_mark (w.alloc (.cells S 28)) R 28 0 0 j
  rw [z1] at this
  rw [this]
  simp
structure Two (w W : World) (b1 b2 : Nat) (v0 v1 v2 r0 r1 r2 : Value) : Prop where
 c0 : W.cell? ⟨b1, 0, none⟩ = some v0
 c1 : W.cell? ⟨b1, 1, none⟩ = some v1
 c2 : W.cell? ⟨b1, 2, none⟩ = some v2
 d0 : W.cell? ⟨b2, 0, none⟩ = some r0
 d1 : W.cell? ⟨b2, 1, none⟩ = some r1
 d2 : W.cell? ⟨b2, 2, none⟩ = some r2
 f1 : ∀ j, W.frozen? ⟨b1, j, none⟩ = false
 f2 : ∀ j, W.frozen? ⟨b2, j, none⟩ = false
 lt : b1 < b2
 low : w.heap.size ≤ b1
 bel : Below w.heap.size w W
theorem Two.below {w W W' : World} {b1 b2 : Nat} {v0 v1 v2 r0 r1 r2 : Value} (h : Two w W b1 b2 v0 v1 v2 r0 r1 r2) (hb : Below W.heap.size W W') : Two w W' b1 b2 v0 v1 v2 r0 r1 r2 :=
 ⟨(hb.cell (lt_of_cell h.c0)).trans h.c0, (hb.cell (lt_of_cell h.c1)).trans h.c1, (hb.cell (lt_of_cell h.c2)).trans h.c2, (hb.cell (lt_of_cell h.d0)).trans h.d0, (hb.cell (lt_of_cell h.d1)).trans h.d1, (hb.cell (lt_of_cell h.d2)).trans h.d2,
  fun j => (World.frozen?_of_block (hb.block b1 (lt_of_cell h.c0))).trans (h.f1 j), fun j => (World.frozen?_of_block (hb.block b2 (lt_of_cell h.d0))).trans (h.f2 j), h.lt, h.low, below_call h.bel hb⟩
theorem two_made (w : World) (v0 v1 v2 : Value) : Two w ((w.alloc (.cells #[v0, v1, v2] 28)).alloc (.cells #[.int .i64 0, .slice none 0 0, .int .i64 0] 28)) w.heap.size (w.heap.size + 1) v0 v1 v2 (.int .i64 0) (.slice none 0 0) (.int .i64 0) := by
 obtain ⟨f0, f1, f3, f4, f5, f6⟩ := two_world w #[v0, v1, v2] #[.int .i64 0, .slice none 0 0, .int .i64 0]
 exact ⟨f0 0, f0 1, f0 2, f1 0, f1 1, f1 2, f3, f4, by omega, Nat.le_refl _, f6.below (Nat.le_refl _) (fun _ h => h.elim)⟩
set_option maxHeartbeats 1000000 in
theorem rload_ok (w : World) (P : Nat) (A : Option Addr) (n c T : Nat) (hP : P ≤ 1048576) (l : List M.Ent) (hn : n = l.length) (hl : LogAt w A l) (hok : ∀ e ∈ l, EntOk e) (hb : n ≤ 900) (h0 : n = 0 → A = none ∧ c = 0) (a k tk : Nat) (htk : tk = M.touched a k) (ha : a < 18446744073709551616) (hk : k ≤ 1048576) (hin : M.inB a k (P * 4096) = true) (hT : T + tk < 9223372036854775808) :
  Calls Tryz.prog 65 #[refV P A n c T, .int .u64 a, .int .u64 k] w fun r w' => r = .returned (.tuple #[refV P A n c (T + tk), .string ⟨(M.rd (M.byteAt l) a k).toArray⟩, .int .i64 0]) ∧ Below w.heap.size w w' := by
 have hi := inB_in hin
 have hd : decide ((1048576 : Int) < (k : Int)) = false := by simp; omega
 have HL := Lib.hid (show n = l.length ∧ LogAt w A l ∧ (∀ e ∈ l, EntOk e) ∧ tk = M.touched a k from ⟨hn, hl, hok, htk⟩)
 clear hn hl hok htk
 go_enter Tryz.func65, Tryz.ntmps65
 go_wp2_with fail
 refine (rin_any _ P A n c T hP a k ha (by omega)).mono ?_
 rintro e w1 ⟨rfl, b1⟩
 have t1 := (two_made w (.int .i64 (P : Int)) (.slice A n c) (.int .i64 (T : Int))).below b1
 generalize hb2 : w.heap.size + 1 = b2 at t1 ⊢
 obtain ⟨b0, hb0⟩ : ∃ b0, b0 = w.heap.size := ⟨_, rfl⟩
 rw [← hb0] at t1
 have T1 := Lib.hid (show Two w w1 b0 b2 (.int .i64 (P : Int)) (.slice A n c) (.int .i64 (T : Int)) (.int .i64 0) (.slice none 0 0) (.int .i64 0) ∧ b0 = w.heap.size from ⟨t1, hb0⟩)
 have hne : b0 < b2 := by omega
 rw [← hb0]
 have c0 := t1.c0
 have c1 := t1.c1
 have c2 := t1.c2
 have d0 := t1.d0
 have d1 := t1.d1
 have d2 := t1.d2
 have f1 := t1.f1
 have f2 := t1.f2
 clear t1 b1 hb2 hb0
 go_wp2_with fail
 refine (rbytes_any w1 P A n c T l HL.out.1 (Lies.below HL.out.2.1 T1.out.1.bel) HL.out.2.2.1 (by omega) a k (by omega) hk).mono ?_
 rintro e w2 ⟨rfl, b2'⟩
 have t2 := T1.out.1.below b2'
 have T2 := Lib.hid (show Two w w2 b0 b2 (.int .i64 (P : Int)) (.slice A n c) (.int .i64 (T : Int)) (.int .i64 0) (.slice none 0 0) (.int .i64 0) ∧ b0 = w.heap.size from ⟨t2, T1.out.2⟩)
 clear c0 c1 c2 d0 d1 d2 f1 f2
 have c0 := t2.c0
 have c1 := t2.c1
 have c2 := t2.c2
 have d0 := t2.d0
 have d1 := t2.d1
 have d2 := t2.d2
 have f1 := t2.f1
 have f2 := t2.f2
 clear t2 b2'
 have hwr : IntKind.i64.wrap ((T : Int) + (tk : Int)) = (T : Int) + (tk : Int) := IntWalk.i64_in _ (by omega)
 have hne' : b0 ≠ b2 := by omega
 have hne'' : b2 ≠ b0 := by omega
 go_wp2_with fail
 go_region_with (go_at_call 84; refine (rtouched_any a k (by omega) _).mono ?_; rintro e w' ⟨rfl, rfl⟩; rw [← HL.out.2.2.2])
 all_goals (go_wp2_with fail)
 all_goals
  refine bodyPost_ret (v := .tuple #[.agg #[.int .i64 (P : Int), .slice A n c, .int .i64 ((T : Int) + (tk : Int))], .string ⟨(M.rd (M.byteAt l) a k).toArray⟩, .int .i64 0]) ?_ rfl ?_
  ·simp [results, go_sem, d0, d1, d2]
  ·have hl := T2.out.1.low
   refine ⟨by simp [refV], ?_⟩
   repeat (first | exact T2.out.1.bel | refine Below.drew ?_ | refine Below.setCell ?_ (by show _ ≤ b2; omega) _ | refine Below.setCell ?_ (by show _ ≤ b0; omega) _)
set_option maxHeartbeats 1000000 in
theorem rstore_ok (w : World) (P : Nat) (A : Option Addr) (n c T : Nat) (hP : P ≤ 1048576) (l : List M.Ent) (hn : n = l.length) (hl : LogAt w A l) (hok : ∀ e ∈ l, EntOk e) (hb : n ≤ 900) (h0 : n = 0 → A = none ∧ c = 0) (a k : Nat) (xs : List UInt8) (hxs : xs.length = k) (ha : a < 18446744073709551616) (hkb : k < 9223372036854775807) (tk : Nat) (htk : tk = M.touched a k) (hk : k ≤ 1048576) (hin : M.inB a k (P * 4096) = true) (hT : T + tk < 9223372036854775808) :
    Calls Tryz.prog 55 #[refV P A n c T, .int .u64 a, .string ⟨xs.toArray⟩] w fun r w' => ∃ g c', r = .returned (.tuple #[refV P (some ⟨g, 0, none⟩) (n + 1) c' (T + tk), .int .i64 0]) ∧ LogAt w' (some ⟨g, 0, none⟩) (l ++ [⟨a, k, xs, false⟩]) ∧ w.heap.size ≤ g ∧ g < w'.heap.size ∧ Below w.heap.size w w' := by
  have hi := inB_in hin
  have hd : decide ((1048576 : Int) < (k : Int)) = false := by simp; omega
  have HL := Lib.hid (show n = l.length ∧ LogAt w A l ∧ (∀ e ∈ l, EntOk e) ∧ tk = M.touched a k from ⟨hn, hl, hok, htk⟩)
  clear hn hl hok htk
  go_enter Tryz.func55, Tryz.ntmps55
  go_wp2_with fail
  refine (rin_any _ P A n c T hP a k ha (by omega)).mono ?_
  rintro e w1 ⟨rfl, b1⟩
  have t1 := (two_made w (.int .i64 (P : Int)) (.slice A n c) (.int .i64 (T : Int))).below b1
  generalize hb2 : w.heap.size + 1 = b2 at t1 ⊢
  obtain ⟨b0, hb0⟩ : ∃ b0, b0 = w.heap.size := ⟨_, rfl⟩
  rw [← hb0] at t1
  have T1 := Lib.hid (show Two w w1 b0 b2 (.int .i64 (P : Int)) (.slice A n c) (.int .i64 (T : Int)) (.int .i64 0) (.slice none 0 0) (.int .i64 0) ∧ b0 = w.heap.size from ⟨t1, hb0⟩)
  have hne : b0 < b2 := by omega
  rw [← hb0]
  have c0 := t1.c0
  have c1 := t1.c1
  have c2 := t1.c2
  have d0 := t1.d0
  have d1 := t1.d1
  have d2 := t1.d2
  have f1 := t1.f1
  have f2 := t1.f2
  clear t1 b1 hb2 hb0
  have TW := Lib.hid (show Two w w1.drew b0 b2 (.int .i64 (P : Int)) (.slice A n c) (.int .i64 (T : Int)) (.int .i64 0) (.slice none 0 0) (.int .i64 0) ∧ True from ⟨T1.out.1.below (Below.refl _ _).drew, trivial⟩)
  go_wp2_with fail
  go_region_with (first
    | (go_at_call 84; refine (rtouched_any a k (by omega) _).mono ?_; rintro e w' ⟨rfl, rfl⟩; rw [← HL.out.2.2.2])
    | (go_at_call 83
       refine (rput_any w1.drew P A n c T tk l ⟨a, k, xs, false⟩ HL.out.1 (Lies.below HL.out.2.1 (TW.out.1.bel)) (by omega) h0 hT).mono ?_
       rintro e w5 ⟨g, c5, rfl, hlog, hg1, hg2, b5⟩
       have t5 := TW.out.1.below b5
       have q0 := t5.d0
       have q1 := t5.d1
       have q2 := t5.d2
       have qf := t5.f2
       have hgb : b2 < g := Nat.lt_of_lt_of_le (lt_of_cell TW.out.1.d0) hg1
       have PP : ∀ v0 v1 v2, LogAt (((w5.setCell ⟨b2, 0, none⟩ v0).setCell ⟨b2, 1, none⟩ v1).setCell ⟨b2, 2, none⟩ v2) (some ⟨g, 0, none⟩) (l ++ [⟨a, k, xs, false⟩]) ∧ w.heap.size ≤ g ∧ g < (((w5.setCell ⟨b2, 0, none⟩ v0).setCell ⟨b2, 1, none⟩ v1).setCell ⟨b2, 2, none⟩ v2).heap.size ∧ Below w.heap.size w (((w5.setCell ⟨b2, 0, none⟩ v0).setCell ⟨b2, 1, none⟩ v1).setCell ⟨b2, 2, none⟩ v2) := fun v0 v1 v2 => by
         have kk := (((Kept.refl w5 (fun b => b = b2)).setCell (p := ⟨b2, 0, none⟩) (fun _ => rfl) v0).setCell (p := ⟨b2, 1, none⟩) (fun _ => rfl) v1).setCell (p := ⟨b2, 2, none⟩) (fun _ => rfl) v2
         have hl2 := t5.low
         have hlt := t5.lt
         refine ⟨kk.lies hlog (fun _ ad e h => ?_), by omega, Nat.lt_of_lt_of_le hg2 kk.size, ((t5.bel.setCell (p := ⟨b2, 0, none⟩) (by show _ ≤ b2; omega) v0).setCell (p := ⟨b2, 1, none⟩) (by show _ ≤ b2; omega) v1).setCell (p := ⟨b2, 2, none⟩) (by show _ ≤ b2; omega) v2⟩
         injection e with e
         rw [← e] at h
         have h : g = b2 := h
         omega
       have PP := Lib.hid (PP (.int .i64 (P : Int)) (.slice (some ⟨g, 0, none⟩) (n + 1) c5) (.int .i64 ((T + tk : Nat) : Int)))
       clear t5 hlog b5))
  all_goals (go_wp2_with fail)
  all_goals
    refine bodyPost_ret (v := .tuple #[.agg #[.int .i64 (P : Int), .slice (some ⟨g, 0, none⟩) (n + 1) c5, .int .i64 ((T + tk : Nat) : Int)], .int .i64 0]) ?_ rfl ?_
    · simp [results, go_sem, q0, q1, q2]
    · refine ⟨g, c5, rfl, PP.out.1, PP.out.2.1, PP.out.2.2.1, PP.out.2.2.2⟩
set_option maxHeartbeats 1000000 in
theorem rzero_ok (w : World) (P : Nat) (A : Option Addr) (n c T : Nat) (hP : P ≤ 1048576) (l : List M.Ent) (hn : n = l.length) (hl : LogAt w A l) (hok : ∀ e ∈ l, EntOk e) (hb : n ≤ 900) (h0 : n = 0 → A = none ∧ c = 0) (a k : Nat) (ha : a < 18446744073709551616) (hkb : k < 18446744073709551616) (tk : Nat) (htk : tk = M.touched a k)  (hin : M.inB a k (P * 4096) = true) (hT : T + tk < 9223372036854775808) :
    Calls Tryz.prog 67 #[refV P A n c T, .int .u64 a, .int .u64 k] w fun r w' => ∃ g c', r = .returned (.tuple #[refV P (some ⟨g, 0, none⟩) (n + 1) c' (T + tk), .int .i64 0]) ∧ LogAt w' (some ⟨g, 0, none⟩) (l ++ [⟨a, k, [], true⟩]) ∧ w.heap.size ≤ g ∧ g < w'.heap.size ∧ Below w.heap.size w w' := by
  have hi := inB_in hin
  have HL := Lib.hid (show n = l.length ∧ LogAt w A l ∧ (∀ e ∈ l, EntOk e) ∧ tk = M.touched a k from ⟨hn, hl, hok, htk⟩)
  clear hn hl hok htk
  go_enter Tryz.func67, Tryz.ntmps67
  go_wp2_with fail
  refine (rin_any _ P A n c T hP a k ha (by omega)).mono ?_
  rintro e w1 ⟨rfl, b1⟩
  have t1 := (two_made w (.int .i64 (P : Int)) (.slice A n c) (.int .i64 (T : Int))).below b1
  generalize hb2 : w.heap.size + 1 = b2 at t1 ⊢
  obtain ⟨b0, hb0⟩ : ∃ b0, b0 = w.heap.size := ⟨_, rfl⟩
  rw [← hb0] at t1
  have T1 := Lib.hid (show Two w w1 b0 b2 (.int .i64 (P : Int)) (.slice A n c) (.int .i64 (T : Int)) (.int .i64 0) (.slice none 0 0) (.int .i64 0) ∧ b0 = w.heap.size from ⟨t1, hb0⟩)
  have hne : b0 < b2 := by omega
  rw [← hb0]
  have c0 := t1.c0
  have c1 := t1.c1
  have c2 := t1.c2
  have d0 := t1.d0
  have d1 := t1.d1
  have d2 := t1.d2
  have f1 := t1.f1
  have f2 := t1.f2
  clear t1 b1 hb2 hb0
  have TW := Lib.hid (show Two w w1.drew b0 b2 (.int .i64 (P : Int)) (.slice A n c) (.int .i64 (T : Int)) (.int .i64 0) (.slice none 0 0) (.int .i64 0) ∧ True from ⟨T1.out.1.below (Below.refl _ _).drew, trivial⟩)
  go_wp2_with fail
  go_region_with (first
    | (go_at_call 84; refine (rtouched_any a k (by omega) _).mono ?_; rintro e w' ⟨rfl, rfl⟩; rw [← HL.out.2.2.2])
    | (go_at_call 83
       refine (rput_any w1.drew P A n c T tk l ⟨a, k, [], true⟩ HL.out.1 (Lies.below HL.out.2.1 (TW.out.1.bel)) (by omega) h0 hT).mono ?_
       rintro e w5 ⟨g, c5, rfl, hlog, hg1, hg2, b5⟩
       have t5 := TW.out.1.below b5
       have q0 := t5.d0
       have q1 := t5.d1
       have q2 := t5.d2
       have qf := t5.f2
       have hgb : b2 < g := Nat.lt_of_lt_of_le (lt_of_cell TW.out.1.d0) hg1
       have PP : ∀ v0 v1 v2, LogAt (((w5.setCell ⟨b2, 0, none⟩ v0).setCell ⟨b2, 1, none⟩ v1).setCell ⟨b2, 2, none⟩ v2) (some ⟨g, 0, none⟩) (l ++ [⟨a, k, [], true⟩]) ∧ w.heap.size ≤ g ∧ g < (((w5.setCell ⟨b2, 0, none⟩ v0).setCell ⟨b2, 1, none⟩ v1).setCell ⟨b2, 2, none⟩ v2).heap.size ∧ Below w.heap.size w (((w5.setCell ⟨b2, 0, none⟩ v0).setCell ⟨b2, 1, none⟩ v1).setCell ⟨b2, 2, none⟩ v2) := fun v0 v1 v2 => by
         have kk := (((Kept.refl w5 (fun b => b = b2)).setCell (p := ⟨b2, 0, none⟩) (fun _ => rfl) v0).setCell (p := ⟨b2, 1, none⟩) (fun _ => rfl) v1).setCell (p := ⟨b2, 2, none⟩) (fun _ => rfl) v2
         have hl2 := t5.low
         have hlt := t5.lt
         refine ⟨kk.lies hlog (fun _ ad e h => ?_), by omega, Nat.lt_of_lt_of_le hg2 kk.size, ((t5.bel.setCell (p := ⟨b2, 0, none⟩) (by show _ ≤ b2; omega) v0).setCell (p := ⟨b2, 1, none⟩) (by show _ ≤ b2; omega) v1).setCell (p := ⟨b2, 2, none⟩) (by show _ ≤ b2; omega) v2⟩
         injection e with e
         rw [← e] at h
         have h : g = b2 := h
         omega
       have PP := Lib.hid (PP (.int .i64 (P : Int)) (.slice (some ⟨g, 0, none⟩) (n + 1) c5) (.int .i64 ((T + tk : Nat) : Int)))
       clear t5 hlog b5))
  all_goals (go_wp2_with fail)
  all_goals
    refine bodyPost_ret (v := .tuple #[.agg #[.int .i64 (P : Int), .slice (some ⟨g, 0, none⟩) (n + 1) c5, .int .i64 ((T + tk : Nat) : Int)], .int .i64 0]) ?_ rfl ?_
    · simp [results, go_sem, q0, q1, q2]
    · refine ⟨g, c5, rfl, PP.out.1, PP.out.2.1, PP.out.2.2.1, PP.out.2.2.2⟩

/-! What is asked, of each call. -/
/-! The document's calls. -/
def Fresh (w w' : World) (A A' : Option Addr) (c c' : Nat) (l l' : List M.Ent) : Prop := (A' = A ∧ c' = c ∧ l' = l) ∨ ∃ g, A' = some ⟨g, 0, none⟩ ∧ w.heap.size ≤ g ∧ g < w'.heap.size ∧ l'.length = l.length + 1
section
variable (w : World) (P : Nat) (A : Option Addr) (n c T : Nat) (hP : P ≤ 1048576) (l : List M.Ent) (hn : n = l.length) (hl : LogAt w A l) (hok : ∀ e ∈ l, EntOk e) (hb : n ≤ 900) (h0 : n = 0 → A = none ∧ c = 0) (hT : T ≤ 1000000000000)
include hP hn hl hok hb h0 hT
end
/-! The program's calls. -/
section
variable {w0 w : World} {s P T : Nat} {O : Nat → Prop} {l : List M.Ent}
theorem At.widen {f : Nat → UInt8} {w' : World} (h : At w0 w s P T f O) {T' : Nat} {f' : Nat → UInt8} (S : Sp w' s P T' f' O) (k : Kept w w' O) : At w0 w' s P T' f' (Wid O w w') :=
 h.kept (S.mono (fun _ h => Or.inl h) (fun b hb => hb.elim (fun h => S.lt h) (fun h => h.2))) k h.wid
theorem At.widen_same {f : Nat → UInt8} {w' : World} (h : At w0 w s P T f O) (hb : Below w.heap.size w w') : At w0 w' s P (T + 0) f (Wid O w w') ∧ Kept w w' O :=
 ⟨h.widen (h.sp.below hb) (Kept.of_below hb _), Kept.of_below hb _⟩
end
/-! What the specifications give. -/
/-! What Get answers. -/
section
variable {w0 w w' : World} {s P T : Nat} {f : Nat → UInt8} {O O' : Nat → Prop}
theorem At.mono (h : At w0 w s P T f O) (hO : ∀ b, O b → O' b) (hl : ∀ b, O' b → b < w.heap.size) (ho : ∀ b, O' b → w0.heap.size ≤ b) : At w0 w s P T f O' := ⟨h.sp.mono hO hl, h.bel, ho⟩
end

/-! What Fill, Put and Add answer. -/
abbrev hv (p k o n : Int) : Value := .agg #[.int .i64 p, .int .i64 k, .int .u64 o, .int .u64 n]
theorem hright_any (p k o n : Int) (w : World) :
  Calls Tryz.prog 61 #[hv p k o n] w fun e w' => e = .returned (.bool (M.right p k)) ∧ Below w.heap.size w w' := by
 have HB := Lib.hid ((Below.refl w.heap.size w).alloc (Nat.le_refl _) (.cells #[.int .i64 p, .int .i64 k, .int .u64 o, .int .u64 n] 61))
 by_cases h1 : 1 ≤ p
 ·by_cases h2 : p ≤ 1048576
  ·by_cases h3 : 0 ≤ k
   ·by_cases h4 : k ≤ 255
    ·have HR := Lib.hid (show M.right p k = true by rw [M.right_iff]; omega)
     have e1 : decide (1 ≤ p) = true := by simpa using h1
     have e2 : decide (p ≤ 1048576) = true := by simpa using h2
     have e3 : decide (0 ≤ k) = true := by simpa using h3
     have e4 : decide (k ≤ 255) = true := by simpa using h4
     clear h1 h2 h3 h4
     go_enter Tryz.func61, Tryz.ntmps61
     go_wp2
     go_ret
     exact ⟨by rw [HR.out]; rfl, HB.out⟩
    ·have HR := Lib.hid (show M.right p k = false by rw [M.right_not]; omega)
     have e1 : decide (1 ≤ p) = true := by simpa using h1
     have e2 : decide (p ≤ 1048576) = true := by simpa using h2
     have e3 : decide (0 ≤ k) = true := by simpa using h3
     have e4 : decide (k ≤ 255) = false := by simpa using h4
     clear h1 h2 h3 h4
     go_enter Tryz.func61, Tryz.ntmps61
     go_wp2
     go_ret
     exact ⟨by rw [HR.out]; rfl, HB.out⟩
   ·have HR := Lib.hid (show M.right p k = false by rw [M.right_not]; omega)
    have e1 : decide (1 ≤ p) = true := by simpa using h1
    have e2 : decide (p ≤ 1048576) = true := by simpa using h2
    have e3 : decide (0 ≤ k) = false := by simpa using h3
    clear h1 h2 h3
    go_enter Tryz.func61, Tryz.ntmps61
    go_wp2
    go_ret
    exact ⟨by rw [HR.out]; rfl, HB.out⟩
  ·have HR := Lib.hid (show M.right p k = false by rw [M.right_not]; omega)
   have e1 : decide (1 ≤ p) = true := by simpa using h1
   have e2 : decide (p ≤ 1048576) = false := by simpa using h2
   clear h1 h2
   go_enter Tryz.func61, Tryz.ntmps61
   go_wp2
   go_ret
   exact ⟨by rw [HR.out]; rfl, HB.out⟩
 ·have HR := Lib.hid (show M.right p k = false by rw [M.right_not]; omega)
  have e1 : decide (1 ≤ p) = false := by simpa using h1
  clear h1
  go_enter Tryz.func61, Tryz.ntmps61
  go_wp2
  go_ret
  exact ⟨by rw [HR.out]; rfl, HB.out⟩
def pin (P : Nat) (x : Int) : Bool := decide (0 ≤ x) && decide (x < (P : Int))
theorem pin_yes {P : Nat} {x : Int} (h : pin P x = true) : ∃ a : Nat, x = a ∧ a < P := by
 unfold pin at h
 simp only [Bool.and_eq_true, decide_eq_true_eq] at h
 exact ⟨x.toNat, by omega, by omega⟩
theorem pin_nat {P a : Nat} (h : a < P) : pin P (a : Int) = true := by
 unfold pin
 simp only [Bool.and_eq_true, decide_eq_true_eq]
 omega
theorem pin_no {P : Nat} {x : Int} (h : pin P x = false) : x < 0 ∨ (0 ≤ x ∧ (P : Int) ≤ x) := by
 unfold pin at h
 simp only [Bool.and_eq_false_imp, decide_eq_true_eq, decide_eq_false_iff_not] at h
 by_cases h0 : x < 0
 ·exact Or.inl h0
 ·exact Or.inr ⟨by omega, by have := h (by omega); omega⟩
section
variable {w : World} {s P T : Nat} {f : Nat → UInt8} {O : Nat → Prop}
theorem place_yes (h : Sp w s P T f O) (a : Nat) (ha : a < P) (b : Nat) (hb : b = a * 4096) :
  Calls Tryz.prog 62 #[.pointer (some ⟨s, 0, none⟩), .int .i64 (a : Int)] w fun e w' => e = .returned (.tuple #[.int .u64 (b : Int), .bool true]) ∧ w = w' := by
 have hP := h.top
 have h1 : decide ((a : Int) < 0) = false := by simp
 have h2 : decide (P ≤ a) = false := by simpa using ha
 have HH := Lib.hid (And.intro h hb)
 clear h hb
 go_enter Tryz.func62, Tryz.ntmps62
 go_wp2_with (go_at_call 21; refine (spages_any HH.out.1).mono ?_; rintro e w' ⟨rfl, rfl⟩)
 go_ret2
 exact ⟨ret2 (by have := HH.out.2; omega) rfl, rfl⟩
theorem place_no (h : Sp w s P T f O) (x : Int) (hx : pin P x = false) :
  Calls Tryz.prog 62 #[.pointer (some ⟨s, 0, none⟩), .int .i64 x] w fun e w' => e = .returned (.tuple #[.int .u64 0, .bool false]) ∧ w = w' := by
 rcases pin_no hx with h0 | ⟨h0, h1⟩
 ·have d0 : decide (x < 0) = true := by simpa using h0
  clear h0 hx
  go_enter Tryz.func62, Tryz.ntmps62
  go_wp2_with (go_at_call 21; refine (spages_any h).mono ?_; rintro e w' ⟨rfl, rfl⟩)
  go_ret2
  exact ⟨rfl, rfl⟩
 ·have d0 : decide (x < 0) = false := by simpa using h0
  have d1 : decide ((P : Int) ≤ x) = true := by simpa using h1
  clear h0 h1 hx
  go_enter Tryz.func62, Tryz.ntmps62
  go_wp2_with (go_at_call 21; refine (spages_any h).mono ?_; rintro e w' ⟨rfl, rfl⟩)
  go_ret2
  exact ⟨rfl, rfl⟩
end
theorem cut_i (g d n i : Nat) (hi : i ≤ n) : ∃ A', (∀ W, (Instr.slice 126 (.slice (some ⟨g, d, none⟩) n n) (some (.int .i64 (i : Int))) none none).run Tryz.prog W = .ok (.slice A' (n - i) (n - i)) W) ∧ (i < n → A' = some ⟨g, d + i, none⟩) := by
 refine ⟨if n = i then some ⟨g, d, none⟩ else (some (⟨g, d, none⟩ : Addr)).map (·.add (i * 1)), fun W => by rw [run_slice_l W 126 (some ⟨g, d, none⟩) n n und22 .i64 i (by omega) (by omega), elem22, size5]; simp only [Result.andThen_ok, sliced, Int.toNat_natCast], fun h => ?_⟩
 rw [if_neg (by omega)]
 simp only [Option.map_some, Nat.mul_one]
 unfold Addr.add
 split <;> simp_all
def Jn (w wr : World) (g k : Nat) (r : Value) (l1 l2 l3 : List UInt8) : Prop :=
  Below w.heap.size w wr ∧ g < wr.heap.size ∧
  ((k = 0 ∧ r = .slice (some ⟨g, 0, none⟩) 32 32 ∧ Own wr g ([] ++ List.replicate 32 0)) ∨ (k = 1 ∧ r = .slice (some ⟨g, 8, none⟩) 24 24 ∧ Own wr g (l1 ++ List.replicate 24 0)) ∨
   (k = 2 ∧ r = .slice (some ⟨g, 16, none⟩) 16 16 ∧ Own wr g ((l1 ++ l2) ++ List.replicate 16 0)) ∨ (k = 3 ∧ Own wr g (((l1 ++ l2) ++ l3) ++ List.replicate 0 0)))
theorem jn_step {wr : World} {g d m r : Nat} {pre l : List UInt8} (ho : Own wr g (pre ++ List.replicate m 0)) (hd : pre.length = d) (hm : m = l.length + r) : Own (wr.setCells g d (u8s l)) g ((pre ++ l) ++ List.replicate r 0) := by
 have h := ho.setCells d l (by simp; omega)
 rw [splice_fill pre l d m r hd hm] at h
 exact h
theorem jn_copy {wr : World} {g d m n c : Nat} {pre l : List UInt8} {A : Option Addr} (ho : Own wr g (pre ++ List.replicate m 0)) (hd : pre.length = d) (hn : l.length = n) (hm : n ≤ m) (h0 : 0 < n) (hl : Lies wr A (u8s l)) (ty : TypeId) :
  (Builtin.copy_ #[126, 126] ty #[.slice (some ⟨g, d, none⟩) m m, .slice A n c]).run Tryz.prog wr = .ok (.int .i64 (n : Int)) (wr.setCells g d (u8s l)) := by
 have h := copy_own wr g d m m _ ho A n c l l (by omega) (by simp; omega) hl (by rw [List.take_length]) (by omega) ty
 rw [hn] at h
 exact h
theorem jn_below {w wr : World} {g : Nat} (hb : Below w.heap.size w wr) (hg : w.heap.size ≤ g) (d : Nat) (l : List UInt8) : Below w.heap.size w (wr.setCells g d (u8s l)) := by
 have k := (Kept.of_below hb (fun b => b = g)).setCells (g := g) (fun _ => rfl) (u8s l) d
 exact k.below (Nat.le_refl _) (fun i e => by omega)
theorem jn_size {wr : World} {g : Nat} (hg : g < wr.heap.size) (d : Nat) (l : List UInt8) : g < (wr.setCells g d (u8s l)).heap.size :=
 Nat.lt_of_lt_of_le hg ((Kept.refl wr (fun b => b = g)).setCells (g := g) (fun _ => rfl) (u8s l) d).size
set_option maxHeartbeats 2000000 in
theorem join_any (w : World) (gp gb : Nat) (A1 A2 A3 : Option Addr) (c1 c2 c3 : Nat) (l1 l2 l3 : List UInt8) (hgb : gb = w.heap.size) (n1 : l1.length = 8) (n2 : l2.length = 8) (n3 : l3.length = 16)
  (p1 : w.cell? ⟨gp, 0, none⟩ = some (.slice A1 8 c1)) (p2 : w.cell? ⟨gp, 1, none⟩ = some (.slice A2 8 c2)) (p3 : w.cell? ⟨gp, 2, none⟩ = some (.slice A3 16 c3)) (h1 : Lies w A1 (u8s l1)) (h2 : Lies w A2 (u8s l2)) (h3 : Lies w A3 (u8s l3)) :
  Calls Tryz.prog 91 #[.slice (some ⟨gp, 0, none⟩) 3 3] w fun e w' => e = .returned (.slice (some ⟨gb, 0, none⟩) 32 32) ∧ Own w' gb ((l1 ++ l2) ++ l3) ∧ Below w.heap.size w w' ∧ gb < w'.heap.size := by
 have HP := Lib.hid (And.intro p1 (And.intro p2 p3))
 have HL := Lib.hid (And.intro h1 (And.intro h2 h3))
 have HN := Lib.hid (And.intro n1 (And.intro n2 n3))
 have hmk := fun W => make22 32 32 (by omega) (by omega) W
 have st : Jn w (w.alloc (.cells (madeCells #[.int .u8 0] 32) 5)) gb 0 (.slice (some ⟨gb, 0, none⟩) 32 32) l1 l2 l3 :=
  ⟨(Below.refl _ _).alloc (Nat.le_refl _) _, by rw [hgb]; simp, Or.inl ⟨rfl, rfl, by rw [hgb]; exact own_made 32 w⟩⟩
 have ST := Lib.hid st
 have HG := Lib.hid hgb
 clear p1 p2 p3 h1 h2 h3 n1 n2 n3 st
 go_enter Tryz.func91, Tryz.ntmps91
 go_wp2_with fail
 rw [← hgb]
 clear hgb
 generalize w.alloc (.cells (madeCells #[.int .u8 0] 32) 5) = w1 at *
 clear hmk
 go_loopw [4, 6, 11] (fun r p i wr => ∃ k : Nat, k ≤ 3 ∧ i = .int .i64 (k : Int) ∧ Jn w wr gb k r l1 l2 l3) (fun r p i _ => 3 - (intOf i).toNat)
 case atStart => exact ⟨0, by omega, rfl, ST.out⟩
 case round =>
  obtain ⟨k, hk, rfl, hb, hgl, hj⟩ := hrel
  rcases hj with ⟨rfl, rfl, ho⟩ | ⟨rfl, rfl, ho⟩ | ⟨rfl, rfl, ho⟩ | ⟨rfl, ho⟩
  ·have q := (hb.cell (lt_of_cell HP.out.1)).trans HP.out.1
   have hco := fun ty => jn_copy (c := c1) (d := 0) ho rfl HN.out.1 (by omega) (by omega) (HL.out.1.below hb) ty
   obtain ⟨A', hcut, hA'⟩ := cut_i gb 0 32 8 (by omega)
   obtain rfl := hA' (by omega)
   have HQ := Lib.hid (show Jn w (wr.setCells gb 0 (u8s l1)) gb 1 (.slice (some ⟨gb, 8, none⟩) 24 24) l1 l2 l3 from ⟨jn_below hb (by rw [HG.out]; omega) _ _, jn_size hgl _ _, Or.inr (Or.inl ⟨rfl, rfl, jn_step (pre := []) ho rfl (by have := HN.out.1; omega)⟩)⟩)
   clear ho hb hgl hA' ST
   go_wp2_with fail
   go_roundw
   case rel => exact ⟨1, by omega, rfl, HQ.out⟩
   case measure => simp [intOf]
  ·have q := (hb.cell (lt_of_cell HP.out.2.1)).trans HP.out.2.1
   have hco := fun ty => jn_copy (c := c2) (d := 8) ho HN.out.1 HN.out.2.1 (by omega) (by omega) (HL.out.2.1.below hb) ty
   obtain ⟨A', hcut, hA'⟩ := cut_i gb 8 24 8 (by omega)
   obtain rfl := hA' (by omega)
   have HQ := Lib.hid (show Jn w (wr.setCells gb 8 (u8s l2)) gb 2 (.slice (some ⟨gb, 16, none⟩) 16 16) l1 l2 l3 from ⟨jn_below hb (by rw [HG.out]; omega) _ _, jn_size hgl _ _, Or.inr (Or.inr (Or.inl ⟨rfl, rfl, jn_step ho HN.out.1 (by have := HN.out.2.1; omega)⟩))⟩)
   clear ho hb hgl hA' ST
   go_wp2_with fail
   go_roundw
   case rel => exact ⟨2, by omega, rfl, HQ.out⟩
   case measure => simp [intOf]
  ·have q := (hb.cell (lt_of_cell HP.out.2.2)).trans HP.out.2.2
   have hco := fun ty => jn_copy (c := c3) (d := 16) ho (by have := HN.out; simp; omega) HN.out.2.2 (by omega) (by omega) (HL.out.2.2.below hb) ty
   obtain ⟨A', hcut, hA'⟩ := cut_i gb 16 16 16 (by omega)
   have HQ := Lib.hid (show ∀ r, Jn w (wr.setCells gb 16 (u8s l3)) gb 3 r l1 l2 l3 from fun r => ⟨jn_below hb (by rw [HG.out]; omega) _ _, jn_size hgl _ _, Or.inr (Or.inr (Or.inr ⟨rfl, jn_step ho (by have := HN.out; simp; omega) (by have := HN.out.2.2; omega)⟩))⟩)
   clear ho hb hgl hA' ST
   go_wp2_with fail
   go_roundw
   case rel => exact ⟨3, by omega, rfl, HQ.out _⟩
   case measure => simp [intOf]
  ·have HO := Lib.hid (show Own wr gb ((l1 ++ l2) ++ l3) ∧ Below w.heap.size w wr ∧ gb < wr.heap.size from ⟨by rw [List.replicate_zero, List.append_nil] at ho; exact ho, hb, hgl⟩)
   clear ho hb hgl ST
   go_wp2_with fail
   go_ret
   exact ⟨rfl, HO.out⟩
end Go.Proofs.YtmboibipabkhaaaGreat
