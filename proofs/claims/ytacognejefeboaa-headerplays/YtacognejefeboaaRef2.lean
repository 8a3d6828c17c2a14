/-
  The document's answers for layer 3: bytes.
-/
import Derived.Test.YtacognejefeboaaRef
namespace Go.Proofs.Ytacognejefeboaa
open Go.ChangeShapes Go.WideShapes Go.ChangeAt Go.RowKit
set_option linter.unusedVariables false
set_option maxRecDepth 20000

def entCells (e : M.Ent) : List Value := [.int .u64 (e.at' : Int), .int .u64 (e.n : Int), .string ⟨e.data.toArray⟩, .bool e.zero]
def logCells (l : List M.Ent) : List Value := l.flatMap entCells
theorem logCells_length (l : List M.Ent) : (logCells l).length = l.length * 4 := by
  induction l with
  | nil => rfl
  | cons e l ih =>
    have : logCells (e :: l) = entCells e ++ logCells l := rfl
    rw [this, List.length_append, ih]
    simp [entCells]
    omega
theorem logCells_at (l : List M.Ent) (i j : Nat) (hi : i < l.length) (hj : j < 4) : (logCells l)[i * 4 + j]? = (entCells l[i])[j]? := by
  induction l generalizing i with
  | nil => simp at hi
  | cons e l ih =>
    have he : logCells (e :: l) = entCells e ++ logCells l := rfl
    have hl : (entCells e).length = 4 := rfl
    rw [he]
    cases i with
    | zero => rw [Nat.zero_mul, Nat.zero_add, List.getElem?_append_left (by omega)]; rfl
    | succ i =>
      rw [List.getElem?_append_right (by omega), hl, show (i + 1) * 4 + j - 4 = i * 4 + j by omega, ih i (by simpa using hi)]
      rfl
theorem logCells_snoc (l : List M.Ent) (e : M.Ent) : logCells (l ++ [e]) = logCells l ++ entCells e := by simp [logCells]
theorem logCells_one (l : List M.Ent) : ∀ u ∈ logCells l, u.oneCell' = true := fun u hu => by
  obtain ⟨e, _, he⟩ := List.mem_flatMap.1 hu
  simp only [entCells, List.mem_cons, List.not_mem_nil, or_false] at he
  rcases he with rfl | rfl | rfl | rfl <;> rfl

/-- The document's log in memory. -/
def LogAt (w : World) (A : Option Addr) (l : List M.Ent) : Prop := Lies w A (logCells l)
def EntOk (e : M.Ent) : Prop := e.at' < 18446744073709551616 ∧ e.n < 18446744073709551616 ∧ (e.zero = false → e.data.length = e.n) ∧ e.data.length ≤ 1048576
structure IsEnt (w : World) (bl o : Nat) (e : M.Ent) : Prop where
  c0 : w.cell? ⟨bl, o, none⟩ = some (.int .u64 (e.at' : Int))
  c1 : w.cell? ⟨bl, o + 1, none⟩ = some (.int .u64 (e.n : Int))
  c2 : w.cell? ⟨bl, o + 2, none⟩ = some (.string ⟨e.data.toArray⟩)
  c3 : w.cell? ⟨bl, o + 3, none⟩ = some (.bool e.zero)
theorem LogAt.ents {w : World} {A : Option Addr} {l : List M.Ent} (h : LogAt w A l) (h0 : 0 < l.length) : ∃ bl o, A = some ⟨bl, o, none⟩ ∧ ∀ i (hi : i < l.length), IsEnt w bl (o + i * 4) l[i] := by
  obtain ⟨ad, e, hc⟩ := h (by rw [logCells_length]; omega)
  have hs : ad.spot = none := by
    have := hc 0 (by rw [logCells_length]; omega)
    rw [add_zero'] at this
    exact World.cell?_spot this
  obtain ⟨bl, o, sp⟩ := ad
  simp only at hs
  subst hs
  have adj : ∀ j, (⟨bl, o, none⟩ : Addr).add j = ⟨bl, o + j, none⟩ := fun j => by unfold Addr.add; split <;> simp_all
  refine ⟨bl, o, e, fun i hi => ?_⟩
  have get : ∀ j, j < 4 → w.cell? ⟨bl, o + (i * 4 + j), none⟩ = (entCells l[i])[j]? := fun j hj => by
    have hlt : i * 4 + j < (logCells l).length := by rw [logCells_length]; omega
    have := hc (i * 4 + j) hlt
    rw [adj] at this
    rw [this, ← logCells_at l i j hi hj, List.getElem?_eq_getElem hlt]
  have g0 := get 0 (by omega)
  have g1 := get 1 (by omega)
  have g2 := get 2 (by omega)
  have g3 := get 3 (by omega)
  exact ⟨by rw [Nat.add_zero] at g0; exact g0, by rw [← Nat.add_assoc] at g1; exact g1, by rw [← Nat.add_assoc] at g2; exact g2, by rw [← Nat.add_assoc] at g3; exact g3⟩

theorem byteUp_succ {l : List M.Ent} {k x : Nat} (h : k < l.length) : M.byteUp l (k + 1) x = if (l[k]).has x = true then (l[k]).byte x else M.byteUp l k x := by
  show (match l[k]? with | some e => if e.has x = true then e.byte x else M.byteUp l k x | none => M.byteUp l k x) = _
  rw [List.getElem?_eq_getElem h]

set_option maxHeartbeats 1000000 in
theorem rbyte_any (w : World) (P : Nat) (A : Option Addr) (n c T : Nat) (l : List M.Ent) (hn : n = l.length) (hl : LogAt w A l) (hok : ∀ e ∈ l, EntOk e) (hb : n ≤ 1000) (x : Nat) (hx : x < 18446744073709551616) :
    Calls Try.prog 62 #[refV P A n c T, .int .u64 x] w fun e w' => e = .returned (.int .u8 ((M.byteAt l x).toNat : Int)) ∧ Below w.heap.size w w' := by
  have HL := Lib.hid (show n = l.length ∧ LogAt w A l ∧ ∀ e ∈ l, EntOk e from ⟨hn, hl, hok⟩)
  clear hn hl hok
  go_enter Try.func62, Try.ntmps62
  go_wp2_with fail
  have hc1 := (World.cell?_alloc_mark w #[.int .i64 (P : Int), .slice A n c, .int .i64 (T : Int)] 29 (0, 0) 1)
  have B1 := Lib.hid ((Below.refl w.heap.size w).alloc (Nat.le_refl _) (.cells #[.int .i64 (P : Int), .slice A n c, .int .i64 (T : Int)] 29))
  have hz1 : (w.alloc (.cells #[.int .i64 (P : Int), .slice A n c, .int .i64 (T : Int)] 29)).heap.size = w.heap.size + 1 := by simp
  generalize hw1 : w.alloc (.cells #[.int .i64 (P : Int), .slice A n c, .int .i64 (T : Int)] 29) = w1 at *
  clear hw1
  generalize hkb : w.heap.size = hb0 at hc1 hz1 ⊢
  have HB := Lib.hid hkb
  clear hkb
  go_loopw [5] (fun i wr => ∃ k : Nat, k ≤ n ∧ i = .int .i64 ((k : Int) - 1) ∧ M.byteUp l k x = M.byteAt l x ∧ Below w1.heap.size w1 wr) (fun i _ => (intOf i + 1).toNat)
  case atStart => exact ⟨n, by omega, by go_num, by rw [HL.out.1]; rfl, Below.refl _ _⟩
  case round =>
    obtain ⟨k, hk, rfl, hup, hbl⟩ := hrel
    have cr : wr.cell? ⟨hb0, 1, none⟩ = some (.slice A n c) := (hbl.cell (p := ⟨hb0, 1, none⟩) (by show hb0 < _; omega)).trans hc1
    have BR := Lib.hid hbl
    have HU := Lib.hid hup
    clear hbl hup
    by_cases h0 : k = 0
    · subst h0
      go_wp2_with fail
      go_ret
      have := HU.out
      exact ⟨by rw [← this]; rfl, B1.out.trans (BR.out.mono (by have := HB.out; omega))⟩
    · obtain ⟨m, rfl⟩ : ∃ m, k = m + 1 := ⟨k - 1, by omega⟩
      have hml : m < l.length := by have := HL.out.1; omega
      obtain ⟨bl, o, rfl, hents⟩ := HL.out.2.1.ents (by omega)
      have he := hents m hml
      have hok := HL.out.2.2 l[m] (List.getElem_mem _)
      have hsucc := byteUp_succ (x := x) hml
      obtain ⟨e, hee⟩ : ∃ e, e = l[m] := ⟨_, rfl⟩
      rw [← hee] at he hok hsucc
      have hbw : Below w.heap.size w wr := B1.out.trans (BR.out.mono (by have := HB.out; omega))
      have c0 := (hbw.cell (lt_of_cell he.c0)).trans he.c0
      have c1 := (hbw.cell (lt_of_cell he.c1)).trans he.c1
      have c2 := (hbw.cell (lt_of_cell he.c2)).trans he.c2
      have c3 := (hbw.cell (lt_of_cell he.c3)).trans he.c3
      obtain ⟨k1, k2, k3, k4⟩ := hok
      have HS := Lib.hid (show M.byteUp l (m + 1) x = if e.has x = true then e.byte x else M.byteUp l m x from hsucc)
      have HW := Lib.hid hbw
      clear he hents hsucc hee hbw
      obtain ⟨ea, en, ed, ez⟩ := e
      simp only at k1 k2 k3 k4 c0 c1 c2 c3
      have hi : ((m + 1 : Nat) : Int) - 1 = (m : Int) := by omega
      have hmn : m < n := by omega
      by_cases h1 : ea ≤ x
      · obtain ⟨d, hd⟩ : ∃ d : Nat, (x : Int) - (ea : Int) = (d : Int) := ⟨x - ea, by omega⟩
        have hd' : d = x - ea := by omega
        have hwd : IntKind.u64.wrap (d : Int) = (d : Int) := by rw [wrapU]; omega
        have HD := Lib.hid hd'
        clear hd'
        by_cases h2 : d < en
        · have hhas : (M.Ent.mk ea en ed ez).has x = true := by have := HD.out; simp [M.Ent.has]; omega
          have hup := HU.out
          have hs := HS.out
          rw [if_pos hhas] at hs
          have hval : M.byteAt l x = (M.Ent.mk ea en ed ez).byte x := by rw [← hup, hs]
          have HV := Lib.hid hval
          clear hup hs hval hhas
          cases ez with
          | true =>
            go_wp2_with fail
            go_ret
            have hv := HV.out
            exact ⟨by rw [hv]; rfl, HW.out.alloc HW.out.size _⟩
          | false =>
            have hdl : d < ed.length := by have := k3 rfl; omega
            have hidx := fun W => index_str ed d hdl (d : Int) rfl W
            have hd63 : (d : Int) < 9223372036854775808 := by omega
            go_wp2_with fail
            go_ret
            have hv := HV.out
            have hdd := HD.out
            refine ⟨?_, HW.out.alloc HW.out.size _⟩
            rw [hv]
            unfold M.Ent.byte
            simp only [Bool.false_eq_true, if_false]
            rw [← hdd, List.getElem?_eq_getElem hdl]
            rfl
        · have hhas : ¬ ((M.Ent.mk ea en ed ez).has x = true) := by have := HD.out; simp [M.Ent.has]; omega
          have hs := HS.out
          rw [if_neg hhas] at hs
          have HN := Lib.hid (hs.symm.trans HU.out)
          clear hs hhas
          go_wp2_with fail
          go_roundw
          case rel => exact ⟨m, by omega, by go_num, HN.out, BR.out.alloc BR.out.size _⟩
          case measure => simp [intOf]
      · have hhas : ¬ ((M.Ent.mk ea en ed ez).has x = true) := by simp [M.Ent.has]; omega
        have hs := HS.out
        rw [if_neg hhas] at hs
        have HN := Lib.hid (hs.symm.trans HU.out)
        clear hs hhas
        go_wp2_with fail
        go_roundw
        case rel => exact ⟨m, by omega, by go_num, HN.out, BR.out.alloc BR.out.size _⟩
        case measure => simp [intOf]
end Go.Proofs.Ytacognejefeboaa
