/-
  The document's answers for layer 3: the small functions.
-/
import Derived.Test.YtmagdhcpbofkbaaK5
import Derived.Deep.DeepCutAuto
import Derived.Deep.Slices
import Derived.Deep.Fields
import Derived.Deep.AppendLies
import Derived.Deep.RegionHeld3
namespace Go.Proofs.Ytmagdhcpbofkbaa
open Go.ChangeShapes Go.WideShapes Go.ChangeAt Go.RowKit
set_option linter.unusedVariables false
set_option maxRecDepth 20000

/-- The document's space, as a value. -/
abbrev refV (P : Nat) (A : Option Addr) (n c T : Nat) : Value := .agg #[.int .i64 (P : Int), .slice A n c, .int .i64 (T : Int)]
end Go.Proofs.Ytmagdhcpbofkbaa
/-
  The document's answers for layer 3: bytes.
-/
namespace Go.Proofs.Ytmagdhcpbofkbaa
open Go.ChangeShapes Go.WideShapes Go.ChangeAt Go.RowKit
set_option linter.unusedVariables false
set_option maxRecDepth 20000

def entCells (e : M.Ent) : List Value := [.int .u64 (e.at' : Int), .int .u64 (e.n : Int), .string ⟨e.data.toArray⟩, .bool e.zero]
def logCells (l : List M.Ent) : List Value := l.flatMap entCells
theorem logCells_length (l : List M.Ent) : (logCells l).length = l.length * 4 := by
  induction l with
  | nil => rfl
  | cons e l ih =>
    have : logCells (e :: l) = entCells e ++ logCells l := rfl
    rw [this, List.length_append, ih]
    simp [entCells]
    omega
theorem logCells_at (l : List M.Ent) (i j : Nat) (hi : i < l.length) (hj : j < 4) : (logCells l)[i * 4 + j]? = (entCells l[i])[j]? := by
  induction l generalizing i with
  | nil => simp at hi
  | cons e l ih =>
    have he : logCells (e :: l) = entCells e ++ logCells l := rfl
    have hl : (entCells e).length = 4 := rfl
    rw [he]
    cases i with
    | zero => rw [Nat.zero_mul, Nat.zero_add, List.getElem?_append_left (by omega)]; rfl
    | succ i =>
      rw [List.getElem?_append_right (by omega), hl, show (i + 1) * 4 + j - 4 = i * 4 + j by omega, ih i (by simpa using hi)]
      rfl
theorem logCells_snoc (l : List M.Ent) (e : M.Ent) : logCells (l ++ [e]) = logCells l ++ entCells e := by simp [logCells]
theorem logCells_one (l : List M.Ent) : ∀ u ∈ logCells l, u.oneCell' = true := fun u hu => by
  obtain ⟨e, _, he⟩ := List.mem_flatMap.1 hu
  simp only [entCells, List.mem_cons, List.not_mem_nil, or_false] at he
  rcases he with rfl | rfl | rfl | rfl <;> rfl

/-- The document's log in memory. -/
def LogAt (w : World) (A : Option Addr) (l : List M.Ent) : Prop := Lies w A (logCells l)
def EntOk (e : M.Ent) : Prop := e.at' < 18446744073709551616 ∧ e.n < 18446744073709551616 ∧ (e.zero = false → e.data.length = e.n) ∧ e.data.length ≤ 1048576
structure IsEnt (w : World) (bl o : Nat) (e : M.Ent) : Prop where
  c0 : w.cell? ⟨bl, o, none⟩ = some (.int .u64 (e.at' : Int))
  c1 : w.cell? ⟨bl, o + 1, none⟩ = some (.int .u64 (e.n : Int))
  c2 : w.cell? ⟨bl, o + 2, none⟩ = some (.string ⟨e.data.toArray⟩)
  c3 : w.cell? ⟨bl, o + 3, none⟩ = some (.bool e.zero)
theorem LogAt.ents {w : World} {A : Option Addr} {l : List M.Ent} (h : LogAt w A l) (h0 : 0 < l.length) : ∃ bl o, A = some ⟨bl, o, none⟩ ∧ ∀ i (hi : i < l.length), IsEnt w bl (o + i * 4) l[i] := by
  obtain ⟨ad, e, hc⟩ := h (by rw [logCells_length]; omega)
  have hs : ad.spot = none := by
    have := hc 0 (by rw [logCells_length]; omega)
    rw [add_zero'] at this
    exact World.cell?_spot this
  obtain ⟨bl, o, sp⟩ := ad
  simp only at hs
  subst hs
  have adj : ∀ j, (⟨bl, o, none⟩ : Addr).add j = ⟨bl, o + j, none⟩ := fun j => by unfold Addr.add; split <;> simp_all
  refine ⟨bl, o, e, fun i hi => ?_⟩
  have get : ∀ j, j < 4 → w.cell? ⟨bl, o + (i * 4 + j), none⟩ = (entCells l[i])[j]? := fun j hj => by
    have hlt : i * 4 + j < (logCells l).length := by rw [logCells_length]; omega
    have := hc (i * 4 + j) hlt
    rw [adj] at this
    rw [this, ← logCells_at l i j hi hj, List.getElem?_eq_getElem hlt]
  have g0 := get 0 (by omega)
  have g1 := get 1 (by omega)
  have g2 := get 2 (by omega)
  have g3 := get 3 (by omega)
  exact ⟨by rw [Nat.add_zero] at g0; exact g0, by rw [← Nat.add_assoc] at g1; exact g1, by rw [← Nat.add_assoc] at g2; exact g2, by rw [← Nat.add_assoc] at g3; exact g3⟩

theorem byteUp_succ {l : List M.Ent} {k x : Nat} (h : k < l.length) : M.byteUp l (k + 1) x = if (l[k]).has x = true then (l[k]).byte x else M.byteUp l k x := by
  show (match l[k]? with | some e => if e.has x = true then e.byte x else M.byteUp l k x | none => M.byteUp l k x) = _
  rw [List.getElem?_eq_getElem h]

end Go.Proofs.Ytmagdhcpbofkbaa
/-
  The document's answers for layer 3: some bytes; a log that grows.
-/
namespace Go.Proofs.Ytmagdhcpbofkbaa
open Go.ChangeShapes Go.WideShapes Go.ChangeAt Go.RowKit
set_option linter.unusedVariables false
set_option maxRecDepth 20000

end Go.Proofs.Ytmagdhcpbofkbaa
/-
  The document's log, one entry longer.
-/
namespace Go.Proofs.Ytmagdhcpbofkbaa
open Go.ChangeShapes Go.WideShapes Go.ChangeAt Go.RowKit
set_option linter.unusedVariables false
set_option maxRecDepth 20000

abbrev entV (e : M.Ent) : Value := .agg #[.int .u64 (e.at' : Int), .int .u64 (e.n : Int), .string ⟨e.data.toArray⟩, .bool e.zero]
end Go.Proofs.Ytmagdhcpbofkbaa
/-
  The document's Load.
-/
namespace Go.Proofs.Ytmagdhcpbofkbaa
open Go.ChangeShapes Go.WideShapes Go.ChangeAt Go.RowKit
set_option linter.unusedVariables false
set_option maxRecDepth 20000

/-- What a function of the document's space has of its own: its argument, and its answer. -/
structure Two (w W : World) (b1 b2 : Nat) (v0 v1 v2 r0 r1 r2 : Value) : Prop where
  c0 : W.cell? ⟨b1, 0, none⟩ = some v0
  c1 : W.cell? ⟨b1, 1, none⟩ = some v1
  c2 : W.cell? ⟨b1, 2, none⟩ = some v2
  d0 : W.cell? ⟨b2, 0, none⟩ = some r0
  d1 : W.cell? ⟨b2, 1, none⟩ = some r1
  d2 : W.cell? ⟨b2, 2, none⟩ = some r2
  f1 : ∀ j, W.frozen? ⟨b1, j, none⟩ = false
  f2 : ∀ j, W.frozen? ⟨b2, j, none⟩ = false
  lt : b1 < b2
  low : w.heap.size ≤ b1
  bel : Below w.heap.size w W
theorem Two.below {w W W' : World} {b1 b2 : Nat} {v0 v1 v2 r0 r1 r2 : Value} (h : Two w W b1 b2 v0 v1 v2 r0 r1 r2) (hb : Below W.heap.size W W') : Two w W' b1 b2 v0 v1 v2 r0 r1 r2 :=
  ⟨(hb.cell (lt_of_cell h.c0)).trans h.c0, (hb.cell (lt_of_cell h.c1)).trans h.c1, (hb.cell (lt_of_cell h.c2)).trans h.c2, (hb.cell (lt_of_cell h.d0)).trans h.d0, (hb.cell (lt_of_cell h.d1)).trans h.d1, (hb.cell (lt_of_cell h.d2)).trans h.d2,
    fun j => (World.frozen?_of_block (hb.block b1 (lt_of_cell h.c0))).trans (h.f1 j), fun j => (World.frozen?_of_block (hb.block b2 (lt_of_cell h.d0))).trans (h.f2 j), h.lt, h.low, below_call h.bel hb⟩
end Go.Proofs.Ytmagdhcpbofkbaa
/-
  The document's Copy.
-/
namespace Go.Proofs.Ytmagdhcpbofkbaa
open Go.ChangeShapes Go.WideShapes Go.ChangeAt Go.RowKit
set_option linter.unusedVariables false
set_option maxRecDepth 20000

end Go.Proofs.Ytmagdhcpbofkbaa
/-
  The program's space beside the document's: what each call answers, in the same words.
-/
namespace Go.Proofs.Ytmagdhcpbofkbaa
open Go.ChangeShapes Go.WideShapes Go.ChangeAt Go.RowKit
set_option linter.unusedVariables false

/-! What is asked, of each call. -/
def Spec0 (P a k : Nat) (f : Nat → UInt8) (bs : List UInt8) (tk err : Nat) : Prop :=
  (M.inB a k (P * 4096) = true ∧ k ≤ 1048576 ∧ err = 0 ∧ tk = M.touched a k ∧ bs = M.rd f a k) ∨ (M.inB a k (P * 4096) = true ∧ 1048576 < k ∧ err = 1 ∧ tk = 0 ∧ bs = []) ∨ (M.inB a k (P * 4096) = false ∧ err = 3 ∧ tk = 0 ∧ bs = [])
def Spec1 (P a k : Nat) (xs : List UInt8) (l l' : List M.Ent) (tk err : Nat) : Prop :=
  (M.inB a k (P * 4096) = true ∧ k ≤ 1048576 ∧ err = 0 ∧ tk = M.touched a k ∧ l' = l ++ [⟨a, k, xs, false⟩]) ∨ (M.inB a k (P * 4096) = true ∧ 1048576 < k ∧ err = 1 ∧ tk = 0 ∧ l' = l) ∨ (M.inB a k (P * 4096) = false ∧ err = 3 ∧ tk = 0 ∧ l' = l)
def Spec2 (P a k : Nat) (l l' : List M.Ent) (tk err : Nat) : Prop :=
  (M.inB a k (P * 4096) = true ∧ err = 0 ∧ tk = M.touched a k ∧ l' = l ++ [⟨a, k, [], true⟩]) ∨ (M.inB a k (P * 4096) = false ∧ err = 3 ∧ tk = 0 ∧ l' = l)
def Spec3 (P t a k : Nat) (l l' : List M.Ent) (tk err : Nat) : Prop :=
  (M.inB t k (P * 4096) = true ∧ M.inB a k (P * 4096) = true ∧ k ≤ 1048576 ∧ err = 0 ∧ tk = M.touched t k + M.touched a k ∧ l' = l ++ [⟨t, k, M.rd (M.byteAt l) a k, false⟩]) ∨
    (M.inB t k (P * 4096) = true ∧ M.inB a k (P * 4096) = true ∧ 1048576 < k ∧ err = 1 ∧ tk = 0 ∧ l' = l) ∨ ((M.inB t k (P * 4096) && M.inB a k (P * 4096)) = false ∧ err = 3 ∧ tk = 0 ∧ l' = l)

/-! The document's calls. -/
/-- Where the new log lies. -/
def Fresh (w w' : World) (A A' : Option Addr) (c c' : Nat) (l l' : List M.Ent) : Prop := (A' = A ∧ c' = c ∧ l' = l) ∨ ∃ g, A' = some ⟨g, 0, none⟩ ∧ w.heap.size ≤ g ∧ g < w'.heap.size ∧ l'.length = l.length + 1
section
variable (w : World) (P : Nat) (A : Option Addr) (n c T : Nat) (hP : P ≤ 1048576) (l : List M.Ent) (hn : n = l.length) (hl : LogAt w A l) (hok : ∀ e ∈ l, EntOk e) (hb : n ≤ 900) (h0 : n = 0 → A = none ∧ c = 0) (hT : T ≤ 1000000000000)
include hP hn hl hok hb h0 hT
end

/-! The program's calls. -/
section
variable {w0 w : World} {s P T : Nat} {O : Nat → Prop} {l : List M.Ent}
theorem At.widen {f : Nat → UInt8} {w' : World} (h : At w0 w s P T f O) {T' : Nat} {f' : Nat → UInt8} (S : Sp w' s P T' f' O) (k : Kept w w' O) : At w0 w' s P T' f' (Wid O w w') :=
  h.kept (S.mono (fun _ h => Or.inl h) (fun b hb => hb.elim (fun h => S.lt h) (fun h => h.2))) k h.wid
theorem At.widen_same {f : Nat → UInt8} {w' : World} (h : At w0 w s P T f O) (hb : Below w.heap.size w w') : At w0 w' s P (T + 0) f (Wid O w w') ∧ Kept w w' O :=
  ⟨h.widen (h.sp.below hb) (Kept.of_below hb _), Kept.of_below hb _⟩
theorem pro0 (h : At w0 w s P T (M.byteAt l) O) (hT : T ≤ 1000000000000) (a k : Nat) (ha : a < 18446744073709551616) (hk : k < 18446744073709551616) (bs : List UInt8) (tk err : Nat) (sp : Spec0 P a k (M.byteAt l) bs tk err) :
    Calls Try.prog 41 #[.pointer (some ⟨s, 0, none⟩), .int .u64 a, .int .u64 k] w fun r w' => ∃ A' n' c', r = .returned (.tuple #[.slice A' n' c', .int .i64 (err : Nat)]) ∧ n' = bs.length ∧ Lies w' A' (u8s bs) ∧ At w0 w' s P (T + tk) (M.byteAt l) (Wid O w w') ∧ Kept w w' O := by
  have hP := h.sp.top
  rcases sp with ⟨h1, h2, rfl, rfl, rfl⟩ | ⟨h1, h2, rfl, rfl, rfl⟩ | ⟨h1, rfl, rfl, rfl⟩
  · have ht := touch_le h1 hP.2
    refine (load_ok h.sp a k ha h1 h2 (by omega)).mono ?_
    rintro e w' ⟨g, rfl, _, _, o, S, kk⟩
    exact ⟨_, _, _, rfl, (M.rd_length _ _ _).symm, o.lies, h.widen S kk, kk⟩
  · refine (load_arg h.sp a k ha hk h1 h2).mono ?_
    rintro e w' ⟨rfl, b⟩
    exact ⟨_, _, _, rfl, rfl, Lies.nil, h.widen_same b⟩
  · refine (load_range h.sp a k ha hk h1).mono ?_
    rintro e w' ⟨rfl, b⟩
    exact ⟨_, _, _, rfl, rfl, Lies.nil, h.widen_same b⟩
theorem pro1 (h : At w0 w s P T (M.byteAt l) O) (hT : T ≤ 1000000000000) (a k c : Nat) (A : Option Addr) (xs : List UInt8) (hx : k = xs.length) (hlies : Lies w A (u8s xs)) (hc : k ≤ c) (hap : 0 < xs.length → ∀ ad, A = some ad → ¬ O ad.block) (ha : a < 18446744073709551616) (hk : k ≤ 9223372036854775807)
    (l' : List M.Ent) (tk err : Nat) (sp : Spec1 P a k xs l l' tk err) :
    Calls Try.prog 52 #[.pointer (some ⟨s, 0, none⟩), .int .u64 a, .slice A k c] w fun r w' => r = .returned (.int .i64 (err : Nat)) ∧ At w0 w' s P (T + tk) (M.byteAt l') (Wid O w w') ∧ Kept w w' O := by
  have hP := h.sp.top
  rcases sp with ⟨h1, h2, rfl, rfl, rfl⟩ | ⟨h1, h2, rfl, rfl, rfl⟩ | ⟨h1, rfl, rfl, rfl⟩
  · have ht := touch_le h1 hP.2
    refine (store_ok h.sp a k c A xs hx hlies hc hap ha h1 h2 (by omega)).mono ?_
    rintro e w' ⟨rfl, S, kk⟩
    refine ⟨rfl, ?_, kk⟩
    rw [hx, M.byteAt_store, ← hx]
    exact h.kept S kk h.wid
  · refine (store_arg h.sp a k c A hk ha h1 h2).mono ?_
    rintro e w' ⟨rfl, b⟩
    exact ⟨rfl, h.widen_same b⟩
  · refine (store_range h.sp a k c A hk ha h1).mono ?_
    rintro e w' ⟨rfl, b⟩
    exact ⟨rfl, h.widen_same b⟩
theorem pro2 (h : At w0 w s P T (M.byteAt l) O) (hT : T ≤ 1000000000000) (a k : Nat) (ha : a < 18446744073709551616) (hk : k < 18446744073709551616) (l' : List M.Ent) (tk err : Nat) (sp : Spec2 P a k l l' tk err) :
    Calls Try.prog 55 #[.pointer (some ⟨s, 0, none⟩), .int .u64 a, .int .u64 k] w fun r w' => r = .returned (.int .i64 (err : Nat)) ∧ At w0 w' s P (T + tk) (M.byteAt l') (Wid O w w') ∧ Kept w w' O := by
  have hP := h.sp.top
  rcases sp with ⟨h1, rfl, rfl, rfl⟩ | ⟨h1, rfl, rfl, rfl⟩
  · have ht := touch_le h1 hP.2
    refine (zero_ok h.sp a k ha hk h1 (by omega)).mono ?_
    rintro e w' ⟨rfl, S, kk⟩
    refine ⟨rfl, ?_, kk⟩
    rw [M.byteAt_zero]
    exact h.widen S kk
  · refine (zero_range h.sp a k ha hk h1).mono ?_
    rintro e w' ⟨rfl, b⟩
    exact ⟨rfl, h.widen_same b⟩
end

/-! What the specifications give. -/
theorem Spec0.le {P a k : Nat} {f : Nat → UInt8} {bs : List UInt8} {tk err : Nat} (h : Spec0 P a k f bs tk err) (hP : P ≤ 1048576) : tk ≤ 4194304 ∧ bs.length ≤ 1048576 := by
  rcases h with ⟨h1, h2, rfl, rfl, rfl⟩ | ⟨h1, h2, rfl, rfl, rfl⟩ | ⟨h1, rfl, rfl, rfl⟩
  · have := touch_le h1 hP; rw [M.rd_length]; omega
  · simp
  · simp
theorem Spec1.le {P a k : Nat} {xs : List UInt8} {l l' : List M.Ent} {tk err : Nat} (h : Spec1 P a k xs l l' tk err) (hP : P ≤ 1048576) (hx : xs.length = k) (ha : a < 18446744073709551616) (hok : ∀ e ∈ l, EntOk e) : tk ≤ 4194304 ∧ l'.length ≤ l.length + 1 ∧ ∀ e ∈ l', EntOk e := by
  rcases h with ⟨h1, h2, rfl, rfl, rfl⟩ | ⟨h1, h2, rfl, rfl, rfl⟩ | ⟨h1, rfl, rfl, rfl⟩
  · have := touch_le h1 hP
    refine ⟨by omega, by simp, fun e he => ?_⟩
    rcases List.mem_append.1 he with h | h
    · exact hok e h
    · simp at h
      subst h
      exact ⟨ha, by show k < _; omega, fun _ => hx, by show xs.length ≤ _; omega⟩
  · exact ⟨by omega, by omega, hok⟩
  · exact ⟨by omega, by omega, hok⟩
theorem Spec2.le {P a k : Nat} {l l' : List M.Ent} {tk err : Nat} (h : Spec2 P a k l l' tk err) (hP : P ≤ 1048576) (ha : a < 18446744073709551616) (hk : k < 18446744073709551616) (hok : ∀ e ∈ l, EntOk e) : tk ≤ 4194304 ∧ l'.length ≤ l.length + 1 ∧ ∀ e ∈ l', EntOk e := by
  rcases h with ⟨h1, rfl, rfl, rfl⟩ | ⟨h1, rfl, rfl, rfl⟩
  · have := touch_le h1 hP
    refine ⟨by omega, by simp, fun e he => ?_⟩
    rcases List.mem_append.1 he with h | h
    · exact hok e h
    · simp at h
      subst h
      exact ⟨ha, hk, fun h => (by cases h), Nat.zero_le _⟩
  · exact ⟨by omega, by omega, hok⟩
theorem Spec3.le {P t a k : Nat} {l l' : List M.Ent} {tk err : Nat} (h : Spec3 P t a k l l' tk err) (hP : P ≤ 1048576) (ht : t < 18446744073709551616) (hok : ∀ e ∈ l, EntOk e) : tk ≤ 4194304 ∧ l'.length ≤ l.length + 1 ∧ ∀ e ∈ l', EntOk e := by
  rcases h with ⟨h1, h2, h3, rfl, rfl, rfl⟩ | ⟨h1, h2, h3, rfl, rfl, rfl⟩ | ⟨h1, rfl, rfl, rfl⟩
  · have q1 := touch_le h1 hP
    have q2 := touch_le h2 hP
    refine ⟨by omega, by simp, fun e he => ?_⟩
    rcases List.mem_append.1 he with h | h
    · exact hok e h
    · simp at h
      subst h
      exact ⟨ht, by show k < _; omega, fun _ => M.rd_length _ _ _, by show (M.rd _ _ _).length ≤ _; rw [M.rd_length]; exact h3⟩
  · exact ⟨by omega, by omega, hok⟩
  · exact ⟨by omega, by omega, hok⟩

/-- The document's space in a variable, beside a space whose blocks are O. -/
structure RefP (w : World) (bw P T : Nat) (O : Nat → Prop) (l : List M.Ent) (A : Option Addr) (c : Nat) : Prop where
  c0 : w.cell? ⟨bw, 0, none⟩ = some (.int .i64 (P : Int))
  c1 : w.cell? ⟨bw, 1, none⟩ = some (.slice A l.length c)
  c2 : w.cell? ⟨bw, 2, none⟩ = some (.int .i64 (T : Int))
  fz : ∀ j, w.frozen? ⟨bw, j, none⟩ = false
  log : LogAt w A l
  emp : l.length = 0 → A = none ∧ c = 0
  apart : 0 < l.length → ∀ ad, A = some ad → ¬ O ad.block ∧ ad.block ≠ bw
  ok : ∀ e ∈ l, EntOk e
  no : ¬ O bw
section
variable {w w' : World} {bw P T : Nat} {O : Nat → Prop} {l : List M.Ent} {A : Option Addr} {c : Nat}
theorem RefP.lt (h : RefP w bw P T O l A c) : bw < w.heap.size := lt_of_cell h.c0
theorem RefP.logLt (h : RefP w bw P T O l A c) (h0 : 0 < l.length) (ad : Addr) (e : A = some ad) : ad.block < w.heap.size := by
  obtain ⟨ad', e', hc⟩ := h.log (by rw [logCells_length]; omega)
  have hh := lt_of_cell (hc 0 (by rw [logCells_length]; omega))
  rw [block_of_add] at hh
  rw [e] at e'
  injection e' with e'
  rw [e']
  exact hh
theorem RefP.below (h : RefP w bw P T O l A c) (hb : Below w.heap.size w w') : RefP w' bw P T O l A c :=
  ⟨(hb.cell (lt_of_cell h.c0)).trans h.c0, (hb.cell (lt_of_cell h.c1)).trans h.c1, (hb.cell (lt_of_cell h.c2)).trans h.c2, fun j => (World.frozen?_of_block (hb.block bw h.lt)).trans (h.fz j), Lies.below h.log hb, h.emp, h.apart, h.ok, h.no⟩
theorem RefP.kept (h : RefP w bw P T O l A c) (k : Kept w w' O) : RefP w' bw P T (Wid O w w') l A c := by
  have hlt := h.lt
  refine ⟨k.cell_some h.c0 h.no, k.cell_some h.c1 h.no, k.cell_some h.c2 h.no, fun j => (k.frozen (p := ⟨bw, j, none⟩) hlt h.no).trans (h.fz j), k.lies h.log (fun hn ad e => (h.apart (by rw [logCells_length] at hn; omega) ad e).1), h.emp, fun h0 ad e => ?_, h.ok, fun e => e.elim h.no (fun e => by omega)⟩
  have h1 := h.apart h0 ad e
  have h2 := h.logLt h0 ad e
  exact ⟨fun e => e.elim h1.1 (fun e => by omega), h1.2⟩
/-- The variable is given another space of the document's. -/
theorem RefP.turn {w2 : World} {T' : Nat} {l' : List M.Ent} {A' : Option Addr} {c' : Nat} (h : RefP w bw P T O l A c) (hb : Below w.heap.size w w2) (hO : ∀ b, O b → b < w.heap.size) (hlog : LogAt w2 A' l') (hf : Fresh w w2 A A' c c' l l') (hok : ∀ e ∈ l', EntOk e) (o : Obj) :
    RefP ((((w2.setCell ⟨bw, 0, none⟩ (.int .i64 (P : Int))).setCell ⟨bw, 1, none⟩ (.slice A' l'.length c')).setCell ⟨bw, 2, none⟩ (.int .i64 (T' : Int))).alloc o) bw P T' O l' A' c' ∧
      Kept w2 ((((w2.setCell ⟨bw, 0, none⟩ (.int .i64 (P : Int))).setCell ⟨bw, 1, none⟩ (.slice A' l'.length c')).setCell ⟨bw, 2, none⟩ (.int .i64 (T' : Int))).alloc o) (fun b => b = bw) := by
  have h2 := (h.below hb)
  have hlt := h.lt
  have hsz := hb.size
  have a0 := h2.c0
  have a1 := h2.c1
  have a2 := h2.c2
  have kk : Kept w2 (((w2.setCell ⟨bw, 0, none⟩ (.int .i64 (P : Int))).setCell ⟨bw, 1, none⟩ (.slice A' l'.length c')).setCell ⟨bw, 2, none⟩ (.int .i64 (T' : Int))) (fun b => b = bw) :=
    (((Kept.refl w2 (fun b => b = bw)).setCell (p := ⟨bw, 0, none⟩) (fun _ => rfl) _).setCell (p := ⟨bw, 1, none⟩) (fun _ => rfl) _).setCell (p := ⟨bw, 2, none⟩) (fun _ => rfl) _
  have hap : 0 < l'.length → ∀ ad, A' = some ad → ¬ O ad.block ∧ ad.block ≠ bw := fun h0 ad e => by
    rcases hf with ⟨rfl, rfl, rfl⟩ | ⟨g, rfl, hg1, hg2, _⟩
    · exact h.apart h0 ad e
    · injection e with e
      rw [← e]
      exact ⟨fun e => by have := hO _ e; simp at this; omega, by show g ≠ bw; omega⟩
  have main : RefP (((w2.setCell ⟨bw, 0, none⟩ (.int .i64 (P : Int))).setCell ⟨bw, 1, none⟩ (.slice A' l'.length c')).setCell ⟨bw, 2, none⟩ (.int .i64 (T' : Int))) bw P T' O l' A' c' := by
    refine ⟨?_, ?_, ?_, fun j => ?_, kk.lies hlog (fun hn ad e => (hap (by rw [logCells_length] at hn; omega) ad e).2), fun h0 => ?_, hap, hok, h.no⟩
    · rw [World.cell?_setCell_other _ _ _ _ (by simp), World.cell?_setCell_other _ _ _ _ (by simp)]
      exact World.cell?_setCell_same _ _ _ a0
    · rw [World.cell?_setCell_other _ _ _ _ (by simp)]
      refine World.cell?_setCell_same _ _ _ (show World.cell? _ _ = some (.slice A l.length c) from ?_)
      rw [World.cell?_setCell_other _ _ _ _ (by simp)]
      exact a1
    · refine World.cell?_setCell_same _ _ _ (show World.cell? _ _ = some (.int .i64 (T : Int)) from ?_)
      rw [World.cell?_setCell_other _ _ _ _ (by simp), World.cell?_setCell_other _ _ _ _ (by simp)]
      exact a2
    · rw [World.frozen?_setCell, World.frozen?_setCell, World.frozen?_setCell]
      exact h2.fz j
    · rcases hf with ⟨rfl, rfl, rfl⟩ | ⟨g, _, _, _, h1⟩
      · exact h.emp h0
      · omega
  exact ⟨main.below ((Below.refl _ _).alloc (Nat.le_refl _) o), kk.alloc o⟩
end
end Go.Proofs.Ytmagdhcpbofkbaa
/-
  What the small calls of cells come to, and Get, of any width and place.
-/
namespace Go.Proofs.Ytmagdhcpbofkbaa
open Go.ChangeShapes Go.WideShapes Go.ChangeAt Go.RowKit
set_option linter.unusedVariables false
set_option maxRecDepth 20000

/-- May a number of such a width stand at such a place? -/
def plB (a : Nat) (y : Int) : Bool := M.wide y && decide (a % y.toNat = 0)
theorem plB_cases {a : Nat} {y : Int} (h : plB a y = true) : ∃ k : Nat, y = k ∧ (k = 1 ∨ k = 2 ∨ k = 4 ∨ k = 8) ∧ a % k = 0 := by
  unfold plB at h
  rw [Bool.and_eq_true] at h
  obtain ⟨k, rfl, hk⟩ := M.wide_cases h.1
  exact ⟨k, rfl, hk, by simpa using h.2⟩
theorem plB_nat {a k : Nat} (hk : k = 1 ∨ k = 2 ∨ k = 4 ∨ k = 8) (h : a % k = 0) : plB a (k : Int) = true := by
  unfold plB
  rw [M.wide_nat hk]
  simpa using h
theorem fits_zero (y : Int) (w : World) : Calls Try.prog 86 #[.int .u64 0, .int .i64 y] w fun e w' => e = .returned (.bool (M.wide y)) ∧ w = w' := by
  have h := fits_any 0 y (by omega) w
  have e : fitsB 0 y = M.wide y := by
    have : 0 < 256 ^ y.toNat := Nat.pow_pos (by omega)
    unfold fitsB
    simp [this]
  rw [e] at h
  exact h
theorem placed_any (a : Nat) (y : Int) (ha : a < 18446744073709551616) (w : World) :
    Calls Try.prog 70 #[.int .u64 a, .int .i64 y] w fun e w' => e = .returned (.bool (plB a y)) ∧ w = w' := by
  by_cases hw : M.wide y = true
  · obtain ⟨k, rfl, hk⟩ := M.wide_cases hw
    rcases hk with rfl | rfl | rfl | rfl
    all_goals
      go_enter Try.func70, Try.ntmps70
      go_wp2_with (go_at_call 86; refine (fits_zero _ _).mono ?_; rintro e w' ⟨rfl, rfl⟩)
      go_ret
      refine ⟨retB ?_, rfl⟩
      rw [Bool.eq_iff_iff]
      simp [plB, M.wide]
      try omega
  · have hw' : M.wide y = false := by simpa using hw
    clear hw
    go_enter Try.func70, Try.ntmps70
    go_wp2_with (go_at_call 86; refine (fits_zero _ _).mono ?_; rintro e w' ⟨rfl, rfl⟩)
    go_ret
    exact ⟨retB (by simp [plB, hw']), rfl⟩

/-! What Get answers. -/
def gE (P a : Nat) (y : Int) : Nat := if plB a y = true then (if M.inB a y.toNat (P * 4096) = true then 0 else 3) else 1
def gV (P : Nat) (f : Nat → UInt8) (a : Nat) (y : Int) : Nat := if gE P a y = 0 then M.num (M.rd f a y.toNat) else 0
def gT (P a : Nat) (y : Int) : Nat := if gE P a y = 0 then M.touched a y.toNat else 0
theorem gE_ok {P a : Nat} {y : Int} (h : gE P a y = 0) : plB a y = true ∧ M.inB a y.toNat (P * 4096) = true := by
  unfold gE at h
  split at h
  · split at h
    · exact ⟨by assumption, by assumption⟩
    · cases h
  · cases h
theorem gE_of {P a : Nat} {y : Int} (h1 : plB a y = true) (h2 : M.inB a y.toNat (P * 4096) = true) : gE P a y = 0 := by unfold gE; rw [if_pos h1, if_pos h2]
theorem gE_cases (P a : Nat) (y : Int) : (plB a y = true ∧ M.inB a y.toNat (P * 4096) = true ∧ gE P a y = 0) ∨ (plB a y = true ∧ M.inB a y.toNat (P * 4096) = false ∧ gE P a y = 3) ∨ (plB a y = false ∧ gE P a y = 1) := by
  unfold gE
  by_cases h1 : plB a y = true
  · by_cases h2 : M.inB a y.toNat (P * 4096) = true
    · exact Or.inl ⟨h1, h2, by rw [if_pos h1, if_pos h2]⟩
    · exact Or.inr (Or.inl ⟨h1, by simpa using h2, by rw [if_pos h1, if_neg h2]⟩)
  · exact Or.inr (Or.inr ⟨by simpa using h1, by rw [if_neg h1]⟩)
theorem gT_le {P a : Nat} {y : Int} (hP : P ≤ 1048576) : gT P a y ≤ 1048578 := by
  unfold gT
  split
  · next h => exact touch_le (gE_ok h).2 hP
  · omega
theorem gV_lt (P : Nat) (f : Nat → UInt8) (a : Nat) (y : Int) : gV P f a y < 18446744073709551616 := by
  unfold gV
  split
  · next h =>
    obtain ⟨k, rfl, hk, _⟩ := plB_cases (gE_ok h).1
    have := M.num_lt (M.rd f a ((k : Int)).toNat)
    rw [M.rd_length] at this
    rcases hk with rfl | rfl | rfl | rfl <;> simp at this ⊢ <;> omega
  · omega

section
variable {w0 w w' : World} {s P T : Nat} {f : Nat → UInt8} {O O' : Nat → Prop}
theorem At.mono (h : At w0 w s P T f O) (hO : ∀ b, O b → O' b) (hl : ∀ b, O' b → b < w.heap.size) (ho : ∀ b, O' b → w0.heap.size ≤ b) : At w0 w s P T f O' := ⟨h.sp.mono hO hl, h.bel, ho⟩
theorem getOf_all (l : List UInt8) (k : Nat) (hk : k = 1 ∨ k = 2 ∨ k = 4 ∨ k = 8) (hl : l.length = k) : getOf l 0 (k : Int) = M.num l := by
  unfold getOf
  have h : M.has l.length 0 (k : Int) = true := M.has_nat (z := l.length) (a := 0) (k := k) hk (by omega)
  rw [if_pos h]
  simp [M.seg, List.take_of_length_le (Nat.le_of_eq hl)]
end
end Go.Proofs.Ytmagdhcpbofkbaa
/-
  Fill, Put and Add of a space, of any width and place.
-/
namespace Go.Proofs.Ytmagdhcpbofkbaa
open Go.ChangeShapes Go.WideShapes Go.ChangeAt Go.RowKit
set_option linter.unusedVariables false
set_option maxRecDepth 20000

theorem bytes_one (k : Nat) (hk : k = 1 ∨ k = 2 ∨ k = 4 ∨ k = 8) (n g g1 : Nat) (hn : n < 18446744073709551616) (w : World) (hg1 : w.heap.size = g1) (hc : w.cell? ⟨g, 0, none⟩ = some (.int .u64 n)) :
    Calls Try.prog 69 #[.int .i64 k, .slice (some ⟨g, 0, none⟩) 1 1] w fun e w' =>
      e = .returned (.slice (some ⟨g1, 0, none⟩) k k) ∧ Own w' g1 (M.enc k n) ∧ Below w.heap.size w w' := by
  subst hg1
  have h := bytes_yes k hk (some ⟨g, 0, none⟩) [n] 1 (by simp) (by simpa using hn) w (fun _ => ⟨_, rfl, fun j hj => by
    obtain rfl : j = 0 := by simp [u64s] at hj; omega
    rw [add_zero']
    exact hc⟩)
  rw [M.bts_one] at h
  simpa using h
theorem repeat_any (k : Nat) (hk : k = 1 ∨ k = 2 ∨ k = 4 ∨ k = 8) (A : Option Addr) (c t : Nat) (b : List UInt8) (hb : b.length = k) (ht : t ≤ 1048576) (w : World) (hl : Lies w A (u8s b)) :
    Calls Try.prog 71 #[.slice A k c, .int .i64 t] w fun e w' => ∃ g N, e = .returned (.slice (some ⟨g, 0, none⟩) N N) ∧ N = k * t ∧ Own w' g (M.rep b t) ∧ Below w.heap.size w w' ∧ w.heap.size ≤ g := by
  rcases Nat.eq_zero_or_pos t with rfl | h0
  · refine (repeat_zero A k c w).mono ?_
    rintro e w' ⟨rfl, b1⟩
    exact ⟨_, 0, rfl, by omega, by rw [M.rep_zero]; exact Own.nil, b1, Nat.le_refl _⟩
  · refine (repeat_yes k hk A c t (k * t) w.heap.size b hb h0 ht rfl w rfl hl).mono ?_
    rintro e w' ⟨rfl, o, b1, h1⟩
    exact ⟨_, _, rfl, rfl, o, b1, Nat.le_refl _⟩

/-- A call that answers a number, of which something is told. -/
def ErrIs (Q : Int → World → Prop) (e : Ending) (w : World) : Prop := ∃ err, e = .returned (.int .i64 err) ∧ Q err w
/-- May as many be filled? -/
def flB (a : Nat) (y t : Int) : Bool := plB a y && (decide (0 ≤ t) && decide (t ≤ 1048576 / y))
theorem cfill_bad (p : Value) (a n : Nat) (y t : Int) (ha : a < 18446744073709551616) (h : flB a y t = false) (w : World) :
    Calls Try.prog 54 #[p, .int .u64 a, .int .i64 y, .int .u64 n, .int .i64 t] w fun e w' => e = .returned (.int .i64 1) ∧ w = w' := by
  by_cases hp : plB a y = true
  · obtain ⟨k, rfl, hk, hd⟩ := plB_cases hp
    unfold flB at h
    rw [hp, Bool.true_and] at h
    have h' : t < 0 ∨ (0 ≤ t ∧ 1048576 / (k : Int) < t) := by
      by_cases h0 : t < 0
      · exact Or.inl h0
      · refine Or.inr ⟨by omega, ?_⟩
        have e0 : decide (0 ≤ t) = true := decide_eq_true (by omega)
        rw [e0, Bool.true_and] at h
        have := of_decide_eq_false h
        omega
    clear h hd
    rcases h' with h' | ⟨h0, h'⟩
    · clear hk
      go_enter Try.func54, Try.ntmps54
      go_wp2_with (go_at_call 70; refine (placed_any _ _ ha _).mono ?_; rintro e w' ⟨rfl, rfl⟩)
      go_ret
      exact ⟨rfl, rfl⟩
    · rcases hk with rfl | rfl | rfl | rfl
      · have h1 : (1048576 : Int) < t := by omega
        clear h'
        go_enter Try.func54, Try.ntmps54
        go_wp2_with (go_at_call 70; refine (placed_any _ _ ha _).mono ?_; rintro e w' ⟨rfl, rfl⟩)
        go_ret
        exact ⟨rfl, rfl⟩
      · have h1 : (524288 : Int) < t := by omega
        clear h'
        go_enter Try.func54, Try.ntmps54
        go_wp2_with (go_at_call 70; refine (placed_any _ _ ha _).mono ?_; rintro e w' ⟨rfl, rfl⟩)
        go_ret
        exact ⟨rfl, rfl⟩
      · have h1 : (262144 : Int) < t := by omega
        clear h'
        go_enter Try.func54, Try.ntmps54
        go_wp2_with (go_at_call 70; refine (placed_any _ _ ha _).mono ?_; rintro e w' ⟨rfl, rfl⟩)
        go_ret
        exact ⟨rfl, rfl⟩
      · have h1 : (131072 : Int) < t := by omega
        clear h'
        go_enter Try.func54, Try.ntmps54
        go_wp2_with (go_at_call 70; refine (placed_any _ _ ha _).mono ?_; rintro e w' ⟨rfl, rfl⟩)
        go_ret
        exact ⟨rfl, rfl⟩
  · have hp' : plB a y = false := by simpa using hp
    clear hp h
    go_enter Try.func54, Try.ntmps54
    go_wp2_with (go_at_call 70; refine (placed_any _ _ ha _).mono ?_; rintro e w' ⟨rfl, rfl⟩)
    go_ret
    exact ⟨rfl, rfl⟩
set_option maxHeartbeats 1000000 in
theorem cfill_go (p : Value) (a n k t : Nat) (hk : k = 1 ∨ k = 2 ∨ k = 4 ∨ k = 8) (hd : a % k = 0) (ht : t ≤ 1048576 / k) (ha : a < 18446744073709551616) (hn : n < 18446744073709551616) (w : World) (Q : Int → World → Prop)
    (hc : ∀ w1 g N, N = k * t → Below w.heap.size w w1 → Own w1 g (M.rep (M.enc k n) t) → w.heap.size ≤ g → Calls Try.prog 52 #[p, .int .u64 a, .slice (some ⟨g, 0, none⟩) N N] w1 (ErrIs Q)) :
    Calls Try.prog 54 #[p, .int .u64 a, .int .i64 k, .int .u64 n, .int .i64 t] w (ErrIs Q) := by
  have HC := Lib.hid hc
  have hp := plB_nat hk hd
  clear hc hd
  rcases hk with rfl | rfl | rfl | rfl
  · have h1 : t ≤ 1048576 := by omega
    clear ht
    go_enter Try.func54, Try.ntmps54
    go_wp2_with fail
    refine (placed_any a 1 ha _).mono ?_
    rintro e w' ⟨rfl, rfl⟩
    go_wp2_with fail
    refine (bytes_one 1 (by omega) n w.heap.size (w.heap.size + 1) hn _ (by simp) (World.cell?_alloc_mark _ _ _ _ _)).mono ?_
    rintro e w1 ⟨rfl, o1, b1⟩
    have B1 := Lib.hid (below_call ((Below.refl w.heap.size w).alloc (Nat.le_refl _) _) b1)
    have O1 := Lib.hid o1
    clear o1 b1
    generalize w.heap.size + 1 = g1 at *
    go_wp2_with fail
    refine (repeat_any 1 (by omega) _ _ t _ (M.enc_length _ _) (by omega) _ O1.out.lies).mono ?_
    rintro e w2 ⟨g, N, rfl, hN, o2, b2, hg⟩
    have B2 := Lib.hid (show N = 1 * t ∧ Below w.heap.size w w2 ∧ Own w2 g _ ∧ w.heap.size ≤ g from ⟨hN, below_call B1.out b2, o2, Nat.le_trans B1.out.size hg⟩)
    clear hN o2 b2 hg B1 O1
    go_wp2_with fail
    refine (HC.out w2 g N B2.out.1 B2.out.2.1 B2.out.2.2.1 B2.out.2.2.2).mono ?_
    rintro e w3 ⟨err, rfl, hq⟩
    have HQ := Lib.hid hq
    clear hq B2
    go_wp2_with fail
    go_ret
    exact ⟨err, rfl, HQ.out⟩
  · have h1 : t ≤ 524288 := by omega
    clear ht
    go_enter Try.func54, Try.ntmps54
    go_wp2_with fail
    refine (placed_any a 2 ha _).mono ?_
    rintro e w' ⟨rfl, rfl⟩
    go_wp2_with fail
    refine (bytes_one 2 (by omega) n w.heap.size (w.heap.size + 1) hn _ (by simp) (World.cell?_alloc_mark _ _ _ _ _)).mono ?_
    rintro e w1 ⟨rfl, o1, b1⟩
    have B1 := Lib.hid (below_call ((Below.refl w.heap.size w).alloc (Nat.le_refl _) _) b1)
    have O1 := Lib.hid o1
    clear o1 b1
    generalize w.heap.size + 1 = g1 at *
    go_wp2_with fail
    refine (repeat_any 2 (by omega) _ _ t _ (M.enc_length _ _) (by omega) _ O1.out.lies).mono ?_
    rintro e w2 ⟨g, N, rfl, hN, o2, b2, hg⟩
    have B2 := Lib.hid (show N = 2 * t ∧ Below w.heap.size w w2 ∧ Own w2 g _ ∧ w.heap.size ≤ g from ⟨hN, below_call B1.out b2, o2, Nat.le_trans B1.out.size hg⟩)
    clear hN o2 b2 hg B1 O1
    go_wp2_with fail
    refine (HC.out w2 g N B2.out.1 B2.out.2.1 B2.out.2.2.1 B2.out.2.2.2).mono ?_
    rintro e w3 ⟨err, rfl, hq⟩
    have HQ := Lib.hid hq
    clear hq B2
    go_wp2_with fail
    go_ret
    exact ⟨err, rfl, HQ.out⟩
  · have h1 : t ≤ 262144 := by omega
    clear ht
    go_enter Try.func54, Try.ntmps54
    go_wp2_with fail
    refine (placed_any a 4 ha _).mono ?_
    rintro e w' ⟨rfl, rfl⟩
    go_wp2_with fail
    refine (bytes_one 4 (by omega) n w.heap.size (w.heap.size + 1) hn _ (by simp) (World.cell?_alloc_mark _ _ _ _ _)).mono ?_
    rintro e w1 ⟨rfl, o1, b1⟩
    have B1 := Lib.hid (below_call ((Below.refl w.heap.size w).alloc (Nat.le_refl _) _) b1)
    have O1 := Lib.hid o1
    clear o1 b1
    generalize w.heap.size + 1 = g1 at *
    go_wp2_with fail
    refine (repeat_any 4 (by omega) _ _ t _ (M.enc_length _ _) (by omega) _ O1.out.lies).mono ?_
    rintro e w2 ⟨g, N, rfl, hN, o2, b2, hg⟩
    have B2 := Lib.hid (show N = 4 * t ∧ Below w.heap.size w w2 ∧ Own w2 g _ ∧ w.heap.size ≤ g from ⟨hN, below_call B1.out b2, o2, Nat.le_trans B1.out.size hg⟩)
    clear hN o2 b2 hg B1 O1
    go_wp2_with fail
    refine (HC.out w2 g N B2.out.1 B2.out.2.1 B2.out.2.2.1 B2.out.2.2.2).mono ?_
    rintro e w3 ⟨err, rfl, hq⟩
    have HQ := Lib.hid hq
    clear hq B2
    go_wp2_with fail
    go_ret
    exact ⟨err, rfl, HQ.out⟩
  · have h1 : t ≤ 131072 := by omega
    clear ht
    go_enter Try.func54, Try.ntmps54
    go_wp2_with fail
    refine (placed_any a 8 ha _).mono ?_
    rintro e w' ⟨rfl, rfl⟩
    go_wp2_with fail
    refine (bytes_one 8 (by omega) n w.heap.size (w.heap.size + 1) hn _ (by simp) (World.cell?_alloc_mark _ _ _ _ _)).mono ?_
    rintro e w1 ⟨rfl, o1, b1⟩
    have B1 := Lib.hid (below_call ((Below.refl w.heap.size w).alloc (Nat.le_refl _) _) b1)
    have O1 := Lib.hid o1
    clear o1 b1
    generalize w.heap.size + 1 = g1 at *
    go_wp2_with fail
    refine (repeat_any 8 (by omega) _ _ t _ (M.enc_length _ _) (by omega) _ O1.out.lies).mono ?_
    rintro e w2 ⟨g, N, rfl, hN, o2, b2, hg⟩
    have B2 := Lib.hid (show N = 8 * t ∧ Below w.heap.size w w2 ∧ Own w2 g _ ∧ w.heap.size ≤ g from ⟨hN, below_call B1.out b2, o2, Nat.le_trans B1.out.size hg⟩)
    clear hN o2 b2 hg B1 O1
    go_wp2_with fail
    refine (HC.out w2 g N B2.out.1 B2.out.2.1 B2.out.2.2.1 B2.out.2.2.2).mono ?_
    rintro e w3 ⟨err, rfl, hq⟩
    have HQ := Lib.hid hq
    clear hq B2
    go_wp2_with fail
    go_ret
    exact ⟨err, rfl, HQ.out⟩
end Go.Proofs.Ytmagdhcpbofkbaa
/-
  Fill, Put and Add of a space that a call made.
-/
namespace Go.Proofs.Ytmagdhcpbofkbaa
open Go.ChangeShapes Go.WideShapes Go.ChangeAt Go.RowKit
set_option linter.unusedVariables false
set_option maxRecDepth 20000

/-! What Fill, Put and Add answer. -/
def fE (P a : Nat) (y t : Int) : Nat := if flB a y t = true then (if M.inB a (y.toNat * t.toNat) (P * 4096) = true then 0 else 3) else 1
def fT (P a : Nat) (y t : Int) : Nat := if fE P a y t = 0 then M.touched a (y.toNat * t.toNat) else 0
def fF (P : Nat) (f : Nat → UInt8) (a : Nat) (y : Int) (n : Nat) (t : Int) : Nat → UInt8 := if fE P a y t = 0 then M.wr f a (M.rep (M.enc y.toNat n) t.toNat) else f
def pF (P : Nat) (f : Nat → UInt8) (a : Nat) (y : Int) (n : Nat) : Nat → UInt8 := if gE P a y = 0 then M.wr f a (M.enc y.toNat n) else f
def aS (P : Nat) (f : Nat → UInt8) (a : Nat) (y : Int) (n : Nat) : Nat := (gV P f a y + n) % 18446744073709551616
theorem flB_cases {a : Nat} {y t : Int} (h : flB a y t = true) : ∃ k m : Nat, y = k ∧ t = m ∧ (k = 1 ∨ k = 2 ∨ k = 4 ∨ k = 8) ∧ a % k = 0 ∧ m ≤ 1048576 / k := by
  unfold flB at h
  rw [Bool.and_eq_true, Bool.and_eq_true] at h
  obtain ⟨h1, h2, h3⟩ := h
  obtain ⟨k, rfl, hk, hd⟩ := plB_cases h1
  have h2 := of_decide_eq_true h2
  have h3 := of_decide_eq_true h3
  refine ⟨k, t.toNat, rfl, by omega, hk, hd, ?_⟩
  rcases hk with rfl | rfl | rfl | rfl <;> omega
theorem fE_cases (P a : Nat) (y t : Int) : (flB a y t = true ∧ M.inB a (y.toNat * t.toNat) (P * 4096) = true ∧ fE P a y t = 0) ∨ (flB a y t = true ∧ M.inB a (y.toNat * t.toNat) (P * 4096) = false ∧ fE P a y t = 3) ∨ (flB a y t = false ∧ fE P a y t = 1) := by
  unfold fE
  by_cases h1 : flB a y t = true
  · by_cases h2 : M.inB a (y.toNat * t.toNat) (P * 4096) = true
    · exact Or.inl ⟨h1, h2, by rw [if_pos h1, if_pos h2]⟩
    · exact Or.inr (Or.inl ⟨h1, by simpa using h2, by rw [if_pos h1, if_neg h2]⟩)
  · exact Or.inr (Or.inr ⟨by simpa using h1, by rw [if_neg h1]⟩)
theorem fT_le {P a : Nat} {y t : Int} (hP : P ≤ 1048576) : fT P a y t ≤ 1048578 := by
  unfold fT
  split
  · next h =>
    rcases fE_cases P a y t with ⟨h1, h2, h3⟩ | ⟨h1, h2, h3⟩ | ⟨h1, h3⟩
    · exact touch_le h2 hP
    · omega
    · omega
  · omega
theorem flB_one (a : Nat) (y : Int) : flB a y 1 = plB a y := by
  unfold flB
  by_cases h : plB a y = true
  · obtain ⟨k, rfl, hk, hd⟩ := plB_cases h
    rw [h]
    rcases hk with rfl | rfl | rfl | rfl <;> decide
  · have : plB a y = false := by simpa using h
    rw [this, Bool.false_and]
theorem fE_one (P a : Nat) (y : Int) : fE P a y 1 = gE P a y := by
  unfold fE gE
  rw [flB_one, show (1 : Int).toNat = 1 from rfl, Nat.mul_one]
theorem fT_one (P a : Nat) (y : Int) : fT P a y 1 = gT P a y := by
  unfold fT gT
  rw [fE_one, show (1 : Int).toNat = 1 from rfl, Nat.mul_one]
theorem fF_one (P : Nat) (f : Nat → UInt8) (a : Nat) (y : Int) (n : Nat) : fF P f a y n 1 = pF P f a y n := by
  unfold fF pF
  rw [fE_one, show (1 : Int).toNat = 1 from rfl, M.rep_one]

theorem mul_top {k t : Nat} (hk : k = 1 ∨ k = 2 ∨ k = 4 ∨ k = 8) (h : t ≤ 1048576 / k) : k * t ≤ 1048576 := by
  rcases hk with rfl | rfl | rfl | rfl <;> omega
section
variable {w0 w w' : World} {s P T : Nat} {f : Nat → UInt8} {O O' : Nat → Prop}
theorem at_cfill (h : At w0 w s P T f O) (a n : Nat) (y t : Int) (ha : a < 18446744073709551616) (hn : n < 18446744073709551616) (hT : T ≤ 1000000000000) :
    Calls Try.prog 54 #[.pointer (some ⟨s, 0, none⟩), .int .u64 a, .int .i64 y, .int .u64 n, .int .i64 t] w fun e w' =>
      e = .returned (.int .i64 (fE P a y t : Nat)) ∧ At w0 w' s P (T + fT P a y t) (fF P f a y n t) (Wid O w w') ∧ Kept w w' O := by
  have hP := h.sp.top
  rcases fE_cases P a y t with ⟨h1, h2, h3⟩ | ⟨h1, h2, h3⟩ | ⟨h1, h3⟩
  · obtain ⟨k, m, rfl, rfl, hk, hd, hm⟩ := flB_cases h1
    unfold fT fF
    rw [h3, if_pos rfl, if_pos rfl]
    rw [Int.toNat_natCast, Int.toNat_natCast] at *
    have ht := touch_le h2 hP.2
    have hkm := mul_top hk hm
    refine (cfill_go _ a n k m hk hd hm ha hn w (fun err w' => err = 0 ∧ At w0 w' s P (T + M.touched a (k * m)) (M.wr f a (M.rep (M.enc k n) m)) (Wid O w w') ∧ Kept w w' O) ?_).mono ?_
    · rintro w1 g N rfl b1 o1 hg
      have h' := h.same b1
      refine (store_ok h'.sp a (k * m) (k * m) _ (M.rep (M.enc k n) m) (by rw [M.rep_length, M.enc_length, Nat.mul_comm]) o1.lies (Nat.le_refl _) (fun _ ad e hO => by
        injection e with e
        subst e
        have := h.sp.lt hO
        have : g < w.heap.size := this
        omega) ha h2 hkm (by omega)).mono ?_
      rintro e w2 ⟨rfl, S, k2⟩
      have hz := b1.size
      refine ⟨0, rfl, rfl, (h'.kept S k2 h'.wid).mono (fun b hb => hb.imp id (fun e => ⟨by omega, e.2⟩)) (fun b hb => hb.elim (fun e => Nat.lt_of_lt_of_le (h'.sp.lt e) k2.size) (fun e => e.2)) h.wid, (Kept.of_below b1 O).trans k2 (fun _ _ h => h)⟩
    · rintro e w' ⟨err, rfl, rfl, q⟩
      exact ⟨rfl, q⟩
  · obtain ⟨k, m, rfl, rfl, hk, hd, hm⟩ := flB_cases h1
    unfold fT fF
    rw [h3, if_neg (by omega), if_neg (by omega)]
    rw [Int.toNat_natCast, Int.toNat_natCast] at h2
    have hkm := mul_top hk hm
    refine (cfill_go _ a n k m hk hd hm ha hn w (fun err w' => err = 3 ∧ Below w.heap.size w w') ?_).mono ?_
    · rintro w1 g N rfl b1 o1 hg
      have h' := h.same b1
      refine (store_range h'.sp a (k * m) (k * m) _ (by omega) ha h2).mono ?_
      rintro e w2 ⟨rfl, b2⟩
      exact ⟨3, rfl, rfl, below_call b1 b2⟩
    · rintro e w' ⟨err, rfl, rfl, b⟩
      exact ⟨rfl, h.widen_same b⟩
  · refine (cfill_bad _ a n y t ha h1 w).mono ?_
    rintro e w' ⟨rfl, rfl⟩
    unfold fT fF
    rw [h3, if_neg (by omega), if_neg (by omega)]
    exact ⟨rfl, h.widen_same (Below.refl _ _)⟩
theorem at_cput (h : At w0 w s P T f O) (a n : Nat) (y : Int) (ha : a < 18446744073709551616) (hn : n < 18446744073709551616) (hT : T ≤ 1000000000000) :
    Calls Try.prog 36 #[.pointer (some ⟨s, 0, none⟩), .int .u64 a, .int .i64 y, .int .u64 n] w fun e w' =>
      e = .returned (.int .i64 (gE P a y : Nat)) ∧ At w0 w' s P (T + gT P a y) (pF P f a y n) (Wid O w w') ∧ Kept w w' O := by
  have hf := at_cfill h a n y 1 ha hn hT
  rw [fE_one, fT_one, fF_one] at hf
  have HF := Lib.hid hf
  clear hf h
  go_enter Try.func36, Try.ntmps36
  go_wp2_with fail
  refine (HF.out).mono ?_
  rintro e w1 ⟨rfl, q⟩
  have Q := Lib.hid q
  clear q
  go_wp2_with fail
  go_ret
  exact ⟨rfl, Q.out⟩
end
theorem cput_nil (a k n : Nat) (hk : k = 1 ∨ k = 2 ∨ k = 4 ∨ k = 8) (hd : a % k = 0) (ha : a < 18446744073709551616) (hn : n < 18446744073709551616) (w : World) :
    Calls Try.prog 36 #[.pointer none, .int .u64 a, .int .i64 k, .int .u64 n] w fun e w' => e = .returned (.int .i64 3) ∧ Below w.heap.size w w' := by
  have hf : Calls Try.prog 54 #[.pointer none, .int .u64 a, .int .i64 k, .int .u64 n, .int .i64 ((1 : Nat) : Int)] w (ErrIs fun err w' => err = 3 ∧ Below w.heap.size w w') := by
    refine cfill_go _ a n k 1 hk hd (by rcases hk with rfl | rfl | rfl | rfl <;> omega) ha hn w _ ?_
    rintro w1 g N rfl b1 o1 hg
    refine (store_nil w1 a (k * 1) (k * 1) _ (by omega)).mono ?_
    rintro e w2 ⟨rfl, b2⟩
    exact ⟨3, rfl, rfl, below_call b1 b2⟩
  have HF := Lib.hid hf
  clear hf
  go_enter Try.func36, Try.ntmps36
  go_wp2_with fail
  refine (HF.out).mono ?_
  rintro e w1 ⟨err, rfl, rfl, b⟩
  go_wp2_with fail
  go_ret
  exact ⟨rfl, b⟩
end Go.Proofs.Ytmagdhcpbofkbaa
/-
  The small functions of header: whether a header may be, where a page begins, parts one behind the other.
-/
namespace Go.Proofs.Ytmagdhcpbofkbaa
open Go.ChangeShapes Go.WideShapes Go.ChangeAt Go.RowKit
set_option linter.unusedVariables false
set_option maxRecDepth 20000

/-- A header as a value. -/
abbrev hv (p k o n : Int) : Value := .agg #[.int .i64 p, .int .i64 k, .int .u64 o, .int .u64 n]
theorem hright_any (p k o n : Int) (w : World) :
    Calls Try.prog 51 #[hv p k o n] w fun e w' => e = .returned (.bool (M.right p k)) ∧ Below w.heap.size w w' := by
  have HB := Lib.hid ((Below.refl w.heap.size w).alloc (Nat.le_refl _) (.cells #[.int .i64 p, .int .i64 k, .int .u64 o, .int .u64 n] 41))
  by_cases h1 : 1 ≤ p
  · by_cases h2 : p ≤ 1048576
    · by_cases h3 : 0 ≤ k
      · by_cases h4 : k ≤ 255
        · have HR := Lib.hid (show M.right p k = true by rw [M.right_iff]; omega)
          have e1 : decide (1 ≤ p) = true := by simpa using h1
          have e2 : decide (p ≤ 1048576) = true := by simpa using h2
          have e3 : decide (0 ≤ k) = true := by simpa using h3
          have e4 : decide (k ≤ 255) = true := by simpa using h4
          clear h1 h2 h3 h4
          go_enter Try.func51, Try.ntmps51
          go_wp2
          go_ret
          exact ⟨by rw [HR.out]; rfl, HB.out⟩
        · have HR := Lib.hid (show M.right p k = false by rw [M.right_not]; omega)
          have e1 : decide (1 ≤ p) = true := by simpa using h1
          have e2 : decide (p ≤ 1048576) = true := by simpa using h2
          have e3 : decide (0 ≤ k) = true := by simpa using h3
          have e4 : decide (k ≤ 255) = false := by simpa using h4
          clear h1 h2 h3 h4
          go_enter Try.func51, Try.ntmps51
          go_wp2
          go_ret
          exact ⟨by rw [HR.out]; rfl, HB.out⟩
      · have HR := Lib.hid (show M.right p k = false by rw [M.right_not]; omega)
        have e1 : decide (1 ≤ p) = true := by simpa using h1
        have e2 : decide (p ≤ 1048576) = true := by simpa using h2
        have e3 : decide (0 ≤ k) = false := by simpa using h3
        clear h1 h2 h3
        go_enter Try.func51, Try.ntmps51
        go_wp2
        go_ret
        exact ⟨by rw [HR.out]; rfl, HB.out⟩
    · have HR := Lib.hid (show M.right p k = false by rw [M.right_not]; omega)
      have e1 : decide (1 ≤ p) = true := by simpa using h1
      have e2 : decide (p ≤ 1048576) = false := by simpa using h2
      clear h1 h2
      go_enter Try.func51, Try.ntmps51
      go_wp2
      go_ret
      exact ⟨by rw [HR.out]; rfl, HB.out⟩
  · have HR := Lib.hid (show M.right p k = false by rw [M.right_not]; omega)
    have e1 : decide (1 ≤ p) = false := by simpa using h1
    clear h1
    go_enter Try.func51, Try.ntmps51
    go_wp2
    go_ret
    exact ⟨by rw [HR.out]; rfl, HB.out⟩

/-- Is a page in a space? -/
def pin (P : Nat) (x : Int) : Bool := decide (0 ≤ x) && decide (x < (P : Int))
theorem pin_yes {P : Nat} {x : Int} (h : pin P x = true) : ∃ a : Nat, x = a ∧ a < P := by
  unfold pin at h
  simp only [Bool.and_eq_true, decide_eq_true_eq] at h
  exact ⟨x.toNat, by omega, by omega⟩
theorem pin_nat {P a : Nat} (h : a < P) : pin P (a : Int) = true := by
  unfold pin
  simp only [Bool.and_eq_true, decide_eq_true_eq]
  omega
theorem pin_no {P : Nat} {x : Int} (h : pin P x = false) : x < 0 ∨ (0 ≤ x ∧ (P : Int) ≤ x) := by
  unfold pin at h
  simp only [Bool.and_eq_false_imp, decide_eq_true_eq, decide_eq_false_iff_not] at h
  by_cases h0 : x < 0
  · exact Or.inl h0
  · exact Or.inr ⟨by omega, by have := h (by omega); omega⟩
section
variable {w : World} {s P T : Nat} {f : Nat → UInt8} {O : Nat → Prop}
theorem place_yes (h : Sp w s P T f O) (a : Nat) (ha : a < P) (b : Nat) (hb : b = a * 4096) :
    Calls Try.prog 40 #[.pointer (some ⟨s, 0, none⟩), .int .i64 (a : Int)] w fun e w' => e = .returned (.tuple #[.int .u64 (b : Int), .bool true]) ∧ w = w' := by
  have hP := h.top
  have h1 : decide ((a : Int) < 0) = false := by simp
  have h2 : decide (P ≤ a) = false := by simpa using ha
  have HH := Lib.hid (And.intro h hb)
  clear h hb
  go_enter Try.func40, Try.ntmps40
  go_wp2_with (go_at_call 59; refine (spages_any HH.out.1).mono ?_; rintro e w' ⟨rfl, rfl⟩)
  go_ret2
  exact ⟨ret2 (by have := HH.out.2; omega) rfl, rfl⟩
theorem place_no (h : Sp w s P T f O) (x : Int) (hx : pin P x = false) :
    Calls Try.prog 40 #[.pointer (some ⟨s, 0, none⟩), .int .i64 x] w fun e w' => e = .returned (.tuple #[.int .u64 0, .bool false]) ∧ w = w' := by
  rcases pin_no hx with h0 | ⟨h0, h1⟩
  · have d0 : decide (x < 0) = true := by simpa using h0
    clear h0 hx
    go_enter Try.func40, Try.ntmps40
    go_wp2_with (go_at_call 59; refine (spages_any h).mono ?_; rintro e w' ⟨rfl, rfl⟩)
    go_ret2
    exact ⟨rfl, rfl⟩
  · have d0 : decide (x < 0) = false := by simpa using h0
    have d1 : decide ((P : Int) ≤ x) = true := by simpa using h1
    clear h0 h1 hx
    go_enter Try.func40, Try.ntmps40
    go_wp2_with (go_at_call 59; refine (spages_any h).mono ?_; rintro e w' ⟨rfl, rfl⟩)
    go_ret2
    exact ⟨rfl, rfl⟩
end
theorem place_nil (w : World) : Calls Try.prog 40 #[.pointer none, .int .i64 0] w fun e w' => e = .returned (.tuple #[.int .u64 0, .bool false]) ∧ w = w' := by
  go_enter Try.func40, Try.ntmps40
  go_wp2_with (go_at_call 59; refine (pages_nil _).mono ?_; rintro e w' ⟨rfl, rfl⟩)
  go_ret2
  exact ⟨rfl, rfl⟩

/-- 'rest[i:]', by a number with a sign. -/
theorem cut_i (g d n i : Nat) (hi : i ≤ n) : ∃ A', (∀ W, (Instr.slice 22 (.slice (some ⟨g, d, none⟩) n n) (some (.int .i64 (i : Int))) none none).run Try.prog W = .ok (.slice A' (n - i) (n - i)) W) ∧ (i < n → A' = some ⟨g, d + i, none⟩) := by
  refine ⟨if n = i then some ⟨g, d, none⟩ else (some (⟨g, d, none⟩ : Addr)).map (·.add (i * 1)), fun W => by rw [run_slice_l W 22 (some ⟨g, d, none⟩) n n und22 .i64 i (by omega) (by omega), elem22, size5]; simp only [Result.andThen_ok, sliced, Int.toNat_natCast], fun h => ?_⟩
  rw [if_neg (by omega)]
  simp only [Option.map_some, Nat.mul_one]
  unfold Addr.add
  split <;> simp_all

/-- What 'join' has laid behind some parts. -/
def Jn (w wr : World) (g k : Nat) (r : Value) (l1 l2 l3 : List UInt8) : Prop :=
  Below w.heap.size w wr ∧ g < wr.heap.size ∧
  ((k = 0 ∧ r = .slice (some ⟨g, 0, none⟩) 32 32 ∧ Own wr g ([] ++ List.replicate 32 0)) ∨ (k = 1 ∧ r = .slice (some ⟨g, 8, none⟩) 24 24 ∧ Own wr g (l1 ++ List.replicate 24 0)) ∨
   (k = 2 ∧ r = .slice (some ⟨g, 16, none⟩) 16 16 ∧ Own wr g ((l1 ++ l2) ++ List.replicate 16 0)) ∨ (k = 3 ∧ Own wr g (((l1 ++ l2) ++ l3) ++ List.replicate 0 0)))
theorem jn_step {wr : World} {g d m r : Nat} {pre l : List UInt8} (ho : Own wr g (pre ++ List.replicate m 0)) (hd : pre.length = d) (hm : m = l.length + r) : Own (wr.setCells g d (u8s l)) g ((pre ++ l) ++ List.replicate r 0) := by
  have h := ho.setCells d l (by simp; omega)
  rw [splice_fill pre l d m r hd hm] at h
  exact h
theorem jn_copy {wr : World} {g d m n c : Nat} {pre l : List UInt8} {A : Option Addr} (ho : Own wr g (pre ++ List.replicate m 0)) (hd : pre.length = d) (hn : l.length = n) (hm : n ≤ m) (h0 : 0 < n) (hl : Lies wr A (u8s l)) (ty : TypeId) :
    (Builtin.copy_ #[22, 22] ty #[.slice (some ⟨g, d, none⟩) m m, .slice A n c]).run Try.prog wr = .ok (.int .i64 (n : Int)) (wr.setCells g d (u8s l)) := by
  have h := copy_own wr g d m m _ ho A n c l l (by omega) (by simp; omega) hl (by rw [List.take_length]) (by omega) ty
  rw [hn] at h
  exact h
theorem jn_below {w wr : World} {g : Nat} (hb : Below w.heap.size w wr) (hg : w.heap.size ≤ g) (d : Nat) (l : List UInt8) : Below w.heap.size w (wr.setCells g d (u8s l)) := by
  have k := (Kept.of_below hb (fun b => b = g)).setCells (g := g) (fun _ => rfl) (u8s l) d
  exact k.below (Nat.le_refl _) (fun i e => by omega)
theorem jn_size {wr : World} {g : Nat} (hg : g < wr.heap.size) (d : Nat) (l : List UInt8) : g < (wr.setCells g d (u8s l)).heap.size :=
  Nat.lt_of_lt_of_le hg ((Kept.refl wr (fun b => b = g)).setCells (g := g) (fun _ => rfl) (u8s l) d).size

set_option maxHeartbeats 2000000 in
theorem join_any (w : World) (gp gb : Nat) (A1 A2 A3 : Option Addr) (c1 c2 c3 : Nat) (l1 l2 l3 : List UInt8) (hgb : gb = w.heap.size) (n1 : l1.length = 8) (n2 : l2.length = 8) (n3 : l3.length = 16)
    (p1 : w.cell? ⟨gp, 0, none⟩ = some (.slice A1 8 c1)) (p2 : w.cell? ⟨gp, 1, none⟩ = some (.slice A2 8 c2)) (p3 : w.cell? ⟨gp, 2, none⟩ = some (.slice A3 16 c3)) (h1 : Lies w A1 (u8s l1)) (h2 : Lies w A2 (u8s l2)) (h3 : Lies w A3 (u8s l3)) :
    Calls Try.prog 68 #[.slice (some ⟨gp, 0, none⟩) 3 3] w fun e w' => e = .returned (.slice (some ⟨gb, 0, none⟩) 32 32) ∧ Own w' gb ((l1 ++ l2) ++ l3) ∧ Below w.heap.size w w' ∧ gb < w'.heap.size := by
  have HP := Lib.hid (And.intro p1 (And.intro p2 p3))
  have HL := Lib.hid (And.intro h1 (And.intro h2 h3))
  have HN := Lib.hid (And.intro n1 (And.intro n2 n3))
  have hmk := fun W => make22 32 32 (by omega) (by omega) W
  have st : Jn w (w.alloc (.cells (madeCells #[.int .u8 0] 32) 5)) gb 0 (.slice (some ⟨gb, 0, none⟩) 32 32) l1 l2 l3 :=
    ⟨(Below.refl _ _).alloc (Nat.le_refl _) _, by rw [hgb]; simp, Or.inl ⟨rfl, rfl, by rw [hgb]; exact own_made 32 w⟩⟩
  have ST := Lib.hid st
  have HG := Lib.hid hgb
  clear p1 p2 p3 h1 h2 h3 n1 n2 n3 st
  go_enter Try.func68, Try.ntmps68
  go_wp2_with fail
  rw [← hgb]
  clear hgb
  generalize w.alloc (.cells (madeCells #[.int .u8 0] 32) 5) = w1 at *
  clear hmk
  go_loopw [4, 6, 11] (fun r p i wr => ∃ k : Nat, k ≤ 3 ∧ i = .int .i64 (k : Int) ∧ Jn w wr gb k r l1 l2 l3) (fun r p i _ => 3 - (intOf i).toNat)
  case atStart => exact ⟨0, by omega, rfl, ST.out⟩
  case round =>
    obtain ⟨k, hk, rfl, hb, hgl, hj⟩ := hrel
    rcases hj with ⟨rfl, rfl, ho⟩ | ⟨rfl, rfl, ho⟩ | ⟨rfl, rfl, ho⟩ | ⟨rfl, ho⟩
    · have q := (hb.cell (lt_of_cell HP.out.1)).trans HP.out.1
      have hco := fun ty => jn_copy (c := c1) (d := 0) ho rfl HN.out.1 (by omega) (by omega) (HL.out.1.below hb) ty
      obtain ⟨A', hcut, hA'⟩ := cut_i gb 0 32 8 (by omega)
      obtain rfl := hA' (by omega)
      have HQ := Lib.hid (show Jn w (wr.setCells gb 0 (u8s l1)) gb 1 (.slice (some ⟨gb, 8, none⟩) 24 24) l1 l2 l3 from ⟨jn_below hb (by rw [HG.out]; omega) _ _, jn_size hgl _ _, Or.inr (Or.inl ⟨rfl, rfl, jn_step (pre := []) ho rfl (by have := HN.out.1; omega)⟩)⟩)
      clear ho hb hgl hA' ST
      go_wp2_with fail
      go_roundw
      case rel => exact ⟨1, by omega, rfl, HQ.out⟩
      case measure => simp [intOf]
    · have q := (hb.cell (lt_of_cell HP.out.2.1)).trans HP.out.2.1
      have hco := fun ty => jn_copy (c := c2) (d := 8) ho HN.out.1 HN.out.2.1 (by omega) (by omega) (HL.out.2.1.below hb) ty
      obtain ⟨A', hcut, hA'⟩ := cut_i gb 8 24 8 (by omega)
      obtain rfl := hA' (by omega)
      have HQ := Lib.hid (show Jn w (wr.setCells gb 8 (u8s l2)) gb 2 (.slice (some ⟨gb, 16, none⟩) 16 16) l1 l2 l3 from ⟨jn_below hb (by rw [HG.out]; omega) _ _, jn_size hgl _ _, Or.inr (Or.inr (Or.inl ⟨rfl, rfl, jn_step ho HN.out.1 (by have := HN.out.2.1; omega)⟩))⟩)
      clear ho hb hgl hA' ST
      go_wp2_with fail
      go_roundw
      case rel => exact ⟨2, by omega, rfl, HQ.out⟩
      case measure => simp [intOf]
    · have q := (hb.cell (lt_of_cell HP.out.2.2)).trans HP.out.2.2
      have hco := fun ty => jn_copy (c := c3) (d := 16) ho (by have := HN.out; simp; omega) HN.out.2.2 (by omega) (by omega) (HL.out.2.2.below hb) ty
      obtain ⟨A', hcut, hA'⟩ := cut_i gb 16 16 16 (by omega)
      have HQ := Lib.hid (show ∀ r, Jn w (wr.setCells gb 16 (u8s l3)) gb 3 r l1 l2 l3 from fun r => ⟨jn_below hb (by rw [HG.out]; omega) _ _, jn_size hgl _ _, Or.inr (Or.inr (Or.inr ⟨rfl, jn_step ho (by have := HN.out; simp; omega) (by have := HN.out.2.2; omega)⟩))⟩)
      clear ho hb hgl hA' ST
      go_wp2_with fail
      go_roundw
      case rel => exact ⟨3, by omega, rfl, HQ.out _⟩
      case measure => simp [intOf]
    · have HO := Lib.hid (show Own wr gb ((l1 ++ l2) ++ l3) ∧ Below w.heap.size w wr ∧ gb < wr.heap.size from ⟨by rw [List.replicate_zero, List.append_nil] at ho; exact ho, hb, hgl⟩)
      clear ho hb hgl ST
      go_wp2_with fail
      go_ret
      exact ⟨rfl, HO.out⟩
end Go.Proofs.Ytmagdhcpbofkbaa
