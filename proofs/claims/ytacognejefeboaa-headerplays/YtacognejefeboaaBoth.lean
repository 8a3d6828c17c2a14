/-
  The program's space beside the document's: what each call answers, in the same words.
-/
import Derived.Test.YtacognejefeboaaRef6
namespace Go.Proofs.Ytacognejefeboaa
open Go.ChangeShapes Go.WideShapes Go.ChangeAt Go.RowKit
set_option linter.unusedVariables false

/-! What is asked, of each call. -/
def Spec0 (P a k : Nat) (f : Nat → UInt8) (bs : List UInt8) (tk err : Nat) : Prop :=
  (M.inB a k (P * 4096) = true ∧ k ≤ 1048576 ∧ err = 0 ∧ tk = M.touched a k ∧ bs = M.rd f a k) ∨ (M.inB a k (P * 4096) = true ∧ 1048576 < k ∧ err = 1 ∧ tk = 0 ∧ bs = []) ∨ (M.inB a k (P * 4096) = false ∧ err = 3 ∧ tk = 0 ∧ bs = [])
def Spec1 (P a k : Nat) (xs : List UInt8) (l l' : List M.Ent) (tk err : Nat) : Prop :=
  (M.inB a k (P * 4096) = true ∧ k ≤ 1048576 ∧ err = 0 ∧ tk = M.touched a k ∧ l' = l ++ [⟨a, k, xs, false⟩]) ∨ (M.inB a k (P * 4096) = true ∧ 1048576 < k ∧ err = 1 ∧ tk = 0 ∧ l' = l) ∨ (M.inB a k (P * 4096) = false ∧ err = 3 ∧ tk = 0 ∧ l' = l)
def Spec2 (P a k : Nat) (l l' : List M.Ent) (tk err : Nat) : Prop :=
  (M.inB a k (P * 4096) = true ∧ err = 0 ∧ tk = M.touched a k ∧ l' = l ++ [⟨a, k, [], true⟩]) ∨ (M.inB a k (P * 4096) = false ∧ err = 3 ∧ tk = 0 ∧ l' = l)
def Spec3 (P t a k : Nat) (l l' : List M.Ent) (tk err : Nat) : Prop :=
  (M.inB t k (P * 4096) = true ∧ M.inB a k (P * 4096) = true ∧ k ≤ 1048576 ∧ err = 0 ∧ tk = M.touched t k + M.touched a k ∧ l' = l ++ [⟨t, k, M.rd (M.byteAt l) a k, false⟩]) ∨
    (M.inB t k (P * 4096) = true ∧ M.inB a k (P * 4096) = true ∧ 1048576 < k ∧ err = 1 ∧ tk = 0 ∧ l' = l) ∨ ((M.inB t k (P * 4096) && M.inB a k (P * 4096)) = false ∧ err = 3 ∧ tk = 0 ∧ l' = l)

/-! The document's calls. -/
/-- Where the new log lies. -/
def Fresh (w w' : World) (A A' : Option Addr) (c c' : Nat) (l l' : List M.Ent) : Prop := (A' = A ∧ c' = c ∧ l' = l) ∨ ∃ g, A' = some ⟨g, 0, none⟩ ∧ w.heap.size ≤ g ∧ g < w'.heap.size ∧ l'.length = l.length + 1
section
variable (w : World) (P : Nat) (A : Option Addr) (n c T : Nat) (hP : P ≤ 1048576) (l : List M.Ent) (hn : n = l.length) (hl : LogAt w A l) (hok : ∀ e ∈ l, EntOk e) (hb : n ≤ 900) (h0 : n = 0 → A = none ∧ c = 0) (hT : T ≤ 1000000000000)
include hP hn hl hok hb h0 hT
theorem doc0 (a k : Nat) (ha : a < 18446744073709551616) (hk : k < 18446744073709551616) :
    Calls Try.prog 32 #[refV P A n c T, .int .u64 a, .int .u64 k] w fun r w' => ∃ bs tk err T', T' = T + tk ∧ r = .returned (.tuple #[refV P A n c T', .string ⟨bs.toArray⟩, .int .i64 (err : Nat)]) ∧ Below w.heap.size w w' ∧ Spec0 P a k (M.byteAt l) bs tk err := by
  by_cases hin : M.inB a k (P * 4096) = true
  · have ht := touch_le hin hP
    by_cases h1 : k ≤ 1048576
    · refine (rload_ok w P A n c T hP l hn hl hok hb h0 a k _ rfl ha h1 hin (by omega)).mono ?_
      rintro e w' ⟨rfl, b⟩
      exact ⟨_, _, 0, _, rfl, rfl, b, Or.inl ⟨hin, h1, rfl, rfl, rfl⟩⟩
    · refine (rload_arg w P A n c T hP a k ha hk hin (by omega)).mono ?_
      rintro e w' ⟨rfl, b⟩
      exact ⟨[], 0, 1, _, rfl, rfl, b, Or.inr (Or.inl ⟨hin, by omega, rfl, rfl, rfl⟩)⟩
  · have hin : M.inB a k (P * 4096) = false := by simpa using hin
    refine (rload_no w P A n c T hP a k ha hk hin).mono ?_
    rintro e w' ⟨rfl, b⟩
    exact ⟨[], 0, 3, _, rfl, rfl, b, Or.inr (Or.inr ⟨hin, rfl, rfl, rfl⟩)⟩
theorem doc1 (a k : Nat) (xs : List UInt8) (hxs : xs.length = k) (ha : a < 18446744073709551616) (hk : k < 9223372036854775807) :
    Calls Try.prog 21 #[refV P A n c T, .int .u64 a, .string ⟨xs.toArray⟩] w fun r w' => ∃ l' A' c' tk err n' T', T' = T + tk ∧ r = .returned (.tuple #[refV P A' n' c' T', .int .i64 (err : Nat)]) ∧ n' = l'.length ∧ LogAt w' A' l' ∧ Fresh w w' A A' c c' l l' ∧ Below w.heap.size w w' ∧ Spec1 P a k xs l l' tk err := by
  by_cases hin : M.inB a k (P * 4096) = true
  · have ht := touch_le hin hP
    by_cases h1 : k ≤ 1048576
    · refine (rstore_ok w P A n c T hP l hn hl hok hb h0 a k xs hxs ha hk _ rfl h1 hin (by omega)).mono ?_
      rintro e w' ⟨g, c', rfl, h2, h3, h4, b⟩
      exact ⟨_, _, c', _, 0, n + 1, _, rfl, rfl, by simp [hn], h2, Or.inr ⟨g, rfl, h3, h4, by simp⟩, b, Or.inl ⟨hin, h1, rfl, rfl, rfl⟩⟩
    · refine (rstore_arg w P A n c T hP a k xs hxs ha hk hin (by omega)).mono ?_
      rintro e w' ⟨rfl, b⟩
      exact ⟨l, A, c, 0, 1, n, _, rfl, rfl, hn, Lies.below hl b, Or.inl ⟨rfl, rfl, rfl⟩, b, Or.inr (Or.inl ⟨hin, by omega, rfl, rfl, rfl⟩)⟩
  · have hin : M.inB a k (P * 4096) = false := by simpa using hin
    refine (rstore_no w P A n c T hP a k xs hxs ha hk hin).mono ?_
    rintro e w' ⟨rfl, b⟩
    exact ⟨l, A, c, 0, 3, n, _, rfl, rfl, hn, Lies.below hl b, Or.inl ⟨rfl, rfl, rfl⟩, b, Or.inr (Or.inr ⟨hin, rfl, rfl, rfl⟩)⟩
theorem doc2 (a k : Nat) (ha : a < 18446744073709551616) (hk : k < 18446744073709551616) :
    Calls Try.prog 36 #[refV P A n c T, .int .u64 a, .int .u64 k] w fun r w' => ∃ l' A' c' tk err n' T', T' = T + tk ∧ r = .returned (.tuple #[refV P A' n' c' T', .int .i64 (err : Nat)]) ∧ n' = l'.length ∧ LogAt w' A' l' ∧ Fresh w w' A A' c c' l l' ∧ Below w.heap.size w w' ∧ Spec2 P a k l l' tk err := by
  by_cases hin : M.inB a k (P * 4096) = true
  · have ht := touch_le hin hP
    refine (rzero_ok w P A n c T hP l hn hl hok hb h0 a k ha hk _ rfl hin (by omega)).mono ?_
    rintro e w' ⟨g, c', rfl, h2, h3, h4, b⟩
    exact ⟨_, _, c', _, 0, n + 1, _, rfl, rfl, by simp [hn], h2, Or.inr ⟨g, rfl, h3, h4, by simp⟩, b, Or.inl ⟨hin, rfl, rfl, rfl⟩⟩
  · have hin : M.inB a k (P * 4096) = false := by simpa using hin
    refine (rzero_no w P A n c T hP a k ha hk hin).mono ?_
    rintro e w' ⟨rfl, b⟩
    exact ⟨l, A, c, 0, 3, n, _, rfl, rfl, hn, Lies.below hl b, Or.inl ⟨rfl, rfl, rfl⟩, b, Or.inr ⟨hin, rfl, rfl, rfl⟩⟩
end

/-! The program's calls. -/
section
variable {w0 w : World} {s P T : Nat} {O : Nat → Prop} {l : List M.Ent}
theorem At.widen {f : Nat → UInt8} {w' : World} (h : At w0 w s P T f O) {T' : Nat} {f' : Nat → UInt8} (S : Sp w' s P T' f' O) (k : Kept w w' O) : At w0 w' s P T' f' (Wid O w w') :=
  h.kept (S.mono (fun _ h => Or.inl h) (fun b hb => hb.elim (fun h => S.lt h) (fun h => h.2))) k h.wid
theorem At.widen_same {f : Nat → UInt8} {w' : World} (h : At w0 w s P T f O) (hb : Below w.heap.size w w') : At w0 w' s P (T + 0) f (Wid O w w') ∧ Kept w w' O :=
  ⟨h.widen (h.sp.below hb) (Kept.of_below hb _), Kept.of_below hb _⟩
theorem pro0 (h : At w0 w s P T (M.byteAt l) O) (hT : T ≤ 1000000000000) (a k : Nat) (ha : a < 18446744073709551616) (hk : k < 18446744073709551616) (bs : List UInt8) (tk err : Nat) (sp : Spec0 P a k (M.byteAt l) bs tk err) :
    Calls Try.prog 24 #[.pointer (some ⟨s, 0, none⟩), .int .u64 a, .int .u64 k] w fun r w' => ∃ A' n' c', r = .returned (.tuple #[.slice A' n' c', .int .i64 (err : Nat)]) ∧ n' = bs.length ∧ Lies w' A' (u8s bs) ∧ At w0 w' s P (T + tk) (M.byteAt l) (Wid O w w') ∧ Kept w w' O := by
  have hP := h.sp.top
  rcases sp with ⟨h1, h2, rfl, rfl, rfl⟩ | ⟨h1, h2, rfl, rfl, rfl⟩ | ⟨h1, rfl, rfl, rfl⟩
  · have ht := touch_le h1 hP.2
    refine (load_ok h.sp a k ha h1 h2 (by omega)).mono ?_
    rintro e w' ⟨g, rfl, _, _, o, S, kk⟩
    exact ⟨_, _, _, rfl, (M.rd_length _ _ _).symm, o.lies, h.widen S kk, kk⟩
  · refine (load_arg h.sp a k ha hk h1 h2).mono ?_
    rintro e w' ⟨rfl, b⟩
    exact ⟨_, _, _, rfl, rfl, Lies.nil, h.widen_same b⟩
  · refine (load_range h.sp a k ha hk h1).mono ?_
    rintro e w' ⟨rfl, b⟩
    exact ⟨_, _, _, rfl, rfl, Lies.nil, h.widen_same b⟩
theorem pro1 (h : At w0 w s P T (M.byteAt l) O) (hT : T ≤ 1000000000000) (a k c : Nat) (A : Option Addr) (xs : List UInt8) (hx : k = xs.length) (hlies : Lies w A (u8s xs)) (hc : k ≤ c) (hap : 0 < xs.length → ∀ ad, A = some ad → ¬ O ad.block) (ha : a < 18446744073709551616) (hk : k ≤ 9223372036854775807)
    (l' : List M.Ent) (tk err : Nat) (sp : Spec1 P a k xs l l' tk err) :
    Calls Try.prog 22 #[.pointer (some ⟨s, 0, none⟩), .int .u64 a, .slice A k c] w fun r w' => r = .returned (.int .i64 (err : Nat)) ∧ At w0 w' s P (T + tk) (M.byteAt l') (Wid O w w') ∧ Kept w w' O := by
  have hP := h.sp.top
  rcases sp with ⟨h1, h2, rfl, rfl, rfl⟩ | ⟨h1, h2, rfl, rfl, rfl⟩ | ⟨h1, rfl, rfl, rfl⟩
  · have ht := touch_le h1 hP.2
    refine (store_ok h.sp a k c A xs hx hlies hc hap ha h1 h2 (by omega)).mono ?_
    rintro e w' ⟨rfl, S, kk⟩
    refine ⟨rfl, ?_, kk⟩
    rw [hx, M.byteAt_store, ← hx]
    exact h.kept S kk h.wid
  · refine (store_arg h.sp a k c A hk ha h1 h2).mono ?_
    rintro e w' ⟨rfl, b⟩
    exact ⟨rfl, h.widen_same b⟩
  · refine (store_range h.sp a k c A hk ha h1).mono ?_
    rintro e w' ⟨rfl, b⟩
    exact ⟨rfl, h.widen_same b⟩
theorem pro2 (h : At w0 w s P T (M.byteAt l) O) (hT : T ≤ 1000000000000) (a k : Nat) (ha : a < 18446744073709551616) (hk : k < 18446744073709551616) (l' : List M.Ent) (tk err : Nat) (sp : Spec2 P a k l l' tk err) :
    Calls Try.prog 37 #[.pointer (some ⟨s, 0, none⟩), .int .u64 a, .int .u64 k] w fun r w' => r = .returned (.int .i64 (err : Nat)) ∧ At w0 w' s P (T + tk) (M.byteAt l') (Wid O w w') ∧ Kept w w' O := by
  have hP := h.sp.top
  rcases sp with ⟨h1, rfl, rfl, rfl⟩ | ⟨h1, rfl, rfl, rfl⟩
  · have ht := touch_le h1 hP.2
    refine (zero_ok h.sp a k ha hk h1 (by omega)).mono ?_
    rintro e w' ⟨rfl, S, kk⟩
    refine ⟨rfl, ?_, kk⟩
    rw [M.byteAt_zero]
    exact h.widen S kk
  · refine (zero_range h.sp a k ha hk h1).mono ?_
    rintro e w' ⟨rfl, b⟩
    exact ⟨rfl, h.widen_same b⟩
end

/-! What the specifications give. -/
theorem Spec0.le {P a k : Nat} {f : Nat → UInt8} {bs : List UInt8} {tk err : Nat} (h : Spec0 P a k f bs tk err) (hP : P ≤ 1048576) : tk ≤ 4194304 ∧ bs.length ≤ 1048576 := by
  rcases h with ⟨h1, h2, rfl, rfl, rfl⟩ | ⟨h1, h2, rfl, rfl, rfl⟩ | ⟨h1, rfl, rfl, rfl⟩
  · have := touch_le h1 hP; rw [M.rd_length]; omega
  · simp
  · simp
theorem Spec1.le {P a k : Nat} {xs : List UInt8} {l l' : List M.Ent} {tk err : Nat} (h : Spec1 P a k xs l l' tk err) (hP : P ≤ 1048576) (hx : xs.length = k) (ha : a < 18446744073709551616) (hok : ∀ e ∈ l, EntOk e) : tk ≤ 4194304 ∧ l'.length ≤ l.length + 1 ∧ ∀ e ∈ l', EntOk e := by
  rcases h with ⟨h1, h2, rfl, rfl, rfl⟩ | ⟨h1, h2, rfl, rfl, rfl⟩ | ⟨h1, rfl, rfl, rfl⟩
  · have := touch_le h1 hP
    refine ⟨by omega, by simp, fun e he => ?_⟩
    rcases List.mem_append.1 he with h | h
    · exact hok e h
    · simp at h
      subst h
      exact ⟨ha, by show k < _; omega, fun _ => hx, by show xs.length ≤ _; omega⟩
  · exact ⟨by omega, by omega, hok⟩
  · exact ⟨by omega, by omega, hok⟩
theorem Spec2.le {P a k : Nat} {l l' : List M.Ent} {tk err : Nat} (h : Spec2 P a k l l' tk err) (hP : P ≤ 1048576) (ha : a < 18446744073709551616) (hk : k < 18446744073709551616) (hok : ∀ e ∈ l, EntOk e) : tk ≤ 4194304 ∧ l'.length ≤ l.length + 1 ∧ ∀ e ∈ l', EntOk e := by
  rcases h with ⟨h1, rfl, rfl, rfl⟩ | ⟨h1, rfl, rfl, rfl⟩
  · have := touch_le h1 hP
    refine ⟨by omega, by simp, fun e he => ?_⟩
    rcases List.mem_append.1 he with h | h
    · exact hok e h
    · simp at h
      subst h
      exact ⟨ha, hk, fun h => (by cases h), Nat.zero_le _⟩
  · exact ⟨by omega, by omega, hok⟩
theorem Spec3.le {P t a k : Nat} {l l' : List M.Ent} {tk err : Nat} (h : Spec3 P t a k l l' tk err) (hP : P ≤ 1048576) (ht : t < 18446744073709551616) (hok : ∀ e ∈ l, EntOk e) : tk ≤ 4194304 ∧ l'.length ≤ l.length + 1 ∧ ∀ e ∈ l', EntOk e := by
  rcases h with ⟨h1, h2, h3, rfl, rfl, rfl⟩ | ⟨h1, h2, h3, rfl, rfl, rfl⟩ | ⟨h1, rfl, rfl, rfl⟩
  · have q1 := touch_le h1 hP
    have q2 := touch_le h2 hP
    refine ⟨by omega, by simp, fun e he => ?_⟩
    rcases List.mem_append.1 he with h | h
    · exact hok e h
    · simp at h
      subst h
      exact ⟨ht, by show k < _; omega, fun _ => M.rd_length _ _ _, by show (M.rd _ _ _).length ≤ _; rw [M.rd_length]; exact h3⟩
  · exact ⟨by omega, by omega, hok⟩
  · exact ⟨by omega, by omega, hok⟩

/-- The document's space in a variable, beside a space whose blocks are O. -/
structure RefP (w : World) (bw P T : Nat) (O : Nat → Prop) (l : List M.Ent) (A : Option Addr) (c : Nat) : Prop where
  c0 : w.cell? ⟨bw, 0, none⟩ = some (.int .i64 (P : Int))
  c1 : w.cell? ⟨bw, 1, none⟩ = some (.slice A l.length c)
  c2 : w.cell? ⟨bw, 2, none⟩ = some (.int .i64 (T : Int))
  fz : ∀ j, w.frozen? ⟨bw, j, none⟩ = false
  log : LogAt w A l
  emp : l.length = 0 → A = none ∧ c = 0
  apart : 0 < l.length → ∀ ad, A = some ad → ¬ O ad.block ∧ ad.block ≠ bw
  ok : ∀ e ∈ l, EntOk e
  no : ¬ O bw
section
variable {w w' : World} {bw P T : Nat} {O : Nat → Prop} {l : List M.Ent} {A : Option Addr} {c : Nat}
theorem RefP.lt (h : RefP w bw P T O l A c) : bw < w.heap.size := lt_of_cell h.c0
theorem RefP.logLt (h : RefP w bw P T O l A c) (h0 : 0 < l.length) (ad : Addr) (e : A = some ad) : ad.block < w.heap.size := by
  obtain ⟨ad', e', hc⟩ := h.log (by rw [logCells_length]; omega)
  have hh := lt_of_cell (hc 0 (by rw [logCells_length]; omega))
  rw [block_of_add] at hh
  rw [e] at e'
  injection e' with e'
  rw [e']
  exact hh
theorem RefP.below (h : RefP w bw P T O l A c) (hb : Below w.heap.size w w') : RefP w' bw P T O l A c :=
  ⟨(hb.cell (lt_of_cell h.c0)).trans h.c0, (hb.cell (lt_of_cell h.c1)).trans h.c1, (hb.cell (lt_of_cell h.c2)).trans h.c2, fun j => (World.frozen?_of_block (hb.block bw h.lt)).trans (h.fz j), Lies.below h.log hb, h.emp, h.apart, h.ok, h.no⟩
theorem RefP.kept (h : RefP w bw P T O l A c) (k : Kept w w' O) : RefP w' bw P T (Wid O w w') l A c := by
  have hlt := h.lt
  refine ⟨k.cell_some h.c0 h.no, k.cell_some h.c1 h.no, k.cell_some h.c2 h.no, fun j => (k.frozen (p := ⟨bw, j, none⟩) hlt h.no).trans (h.fz j), k.lies h.log (fun hn ad e => (h.apart (by rw [logCells_length] at hn; omega) ad e).1), h.emp, fun h0 ad e => ?_, h.ok, fun e => e.elim h.no (fun e => by omega)⟩
  have h1 := h.apart h0 ad e
  have h2 := h.logLt h0 ad e
  exact ⟨fun e => e.elim h1.1 (fun e => by omega), h1.2⟩
/-- The variable is given another space of the document's. -/
theorem RefP.turn {w2 : World} {T' : Nat} {l' : List M.Ent} {A' : Option Addr} {c' : Nat} (h : RefP w bw P T O l A c) (hb : Below w.heap.size w w2) (hO : ∀ b, O b → b < w.heap.size) (hlog : LogAt w2 A' l') (hf : Fresh w w2 A A' c c' l l') (hok : ∀ e ∈ l', EntOk e) (o : Obj) :
    RefP ((((w2.setCell ⟨bw, 0, none⟩ (.int .i64 (P : Int))).setCell ⟨bw, 1, none⟩ (.slice A' l'.length c')).setCell ⟨bw, 2, none⟩ (.int .i64 (T' : Int))).alloc o) bw P T' O l' A' c' ∧
      Kept w2 ((((w2.setCell ⟨bw, 0, none⟩ (.int .i64 (P : Int))).setCell ⟨bw, 1, none⟩ (.slice A' l'.length c')).setCell ⟨bw, 2, none⟩ (.int .i64 (T' : Int))).alloc o) (fun b => b = bw) := by
  have h2 := (h.below hb)
  have hlt := h.lt
  have hsz := hb.size
  have a0 := h2.c0
  have a1 := h2.c1
  have a2 := h2.c2
  have kk : Kept w2 (((w2.setCell ⟨bw, 0, none⟩ (.int .i64 (P : Int))).setCell ⟨bw, 1, none⟩ (.slice A' l'.length c')).setCell ⟨bw, 2, none⟩ (.int .i64 (T' : Int))) (fun b => b = bw) :=
    (((Kept.refl w2 (fun b => b = bw)).setCell (p := ⟨bw, 0, none⟩) (fun _ => rfl) _).setCell (p := ⟨bw, 1, none⟩) (fun _ => rfl) _).setCell (p := ⟨bw, 2, none⟩) (fun _ => rfl) _
  have hap : 0 < l'.length → ∀ ad, A' = some ad → ¬ O ad.block ∧ ad.block ≠ bw := fun h0 ad e => by
    rcases hf with ⟨rfl, rfl, rfl⟩ | ⟨g, rfl, hg1, hg2, _⟩
    · exact h.apart h0 ad e
    · injection e with e
      rw [← e]
      exact ⟨fun e => by have := hO _ e; simp at this; omega, by show g ≠ bw; omega⟩
  have main : RefP (((w2.setCell ⟨bw, 0, none⟩ (.int .i64 (P : Int))).setCell ⟨bw, 1, none⟩ (.slice A' l'.length c')).setCell ⟨bw, 2, none⟩ (.int .i64 (T' : Int))) bw P T' O l' A' c' := by
    refine ⟨?_, ?_, ?_, fun j => ?_, kk.lies hlog (fun hn ad e => (hap (by rw [logCells_length] at hn; omega) ad e).2), fun h0 => ?_, hap, hok, h.no⟩
    · rw [World.cell?_setCell_other _ _ _ _ (by simp), World.cell?_setCell_other _ _ _ _ (by simp)]
      exact World.cell?_setCell_same _ _ _ a0
    · rw [World.cell?_setCell_other _ _ _ _ (by simp)]
      refine World.cell?_setCell_same _ _ _ (show World.cell? _ _ = some (.slice A l.length c) from ?_)
      rw [World.cell?_setCell_other _ _ _ _ (by simp)]
      exact a1
    · refine World.cell?_setCell_same _ _ _ (show World.cell? _ _ = some (.int .i64 (T : Int)) from ?_)
      rw [World.cell?_setCell_other _ _ _ _ (by simp), World.cell?_setCell_other _ _ _ _ (by simp)]
      exact a2
    · rw [World.frozen?_setCell, World.frozen?_setCell, World.frozen?_setCell]
      exact h2.fz j
    · rcases hf with ⟨rfl, rfl, rfl⟩ | ⟨g, _, _, _, h1⟩
      · exact h.emp h0
      · omega
  exact ⟨main.below ((Below.refl _ _).alloc (Nat.le_refl _) o), kk.alloc o⟩
end
end Go.Proofs.Ytacognejefeboaa
