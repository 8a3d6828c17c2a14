/-
  A space in memory: its three cells, its map of pages, its pages; what stays when other blocks are written.
-/
import Derived.Test.YtacognejefeboaaBytes
import Derived.Test.YtacognejefeboaaM1
import Derived.Test.YtacognejefeboaaM3
import Derived.Maps.RangeWalk
import Derived.Maps.OwnSet
import Derived.WideKeyPair
import Derived.DeepKeys4
import Derived.Laws.IdiomCopy
import Derived.Lib.SliceRun
namespace Go.Proofs.Ytacognejefeboaa
open Go.ChangeShapes Go.WideShapes Go.ChangeAt Go.RowKit
open Go.Maps (Keyed)
set_option linter.unusedVariables false
set_option maxRecDepth 20000

/-! What stays. -/
/-- All blocks but some are as they were. -/
structure Kept (w w' : World) (O : Nat → Prop) : Prop where
  os : w'.os = w.os
  tape : w'.tape = w.tape
  output : w'.output = w.output
  size : w.heap.size ≤ w'.heap.size
  block : ∀ i, i < w.heap.size → ¬ O i → w'.heap[i]? = w.heap[i]?

section
variable {w w1 w2 : World} {O O' : Nat → Prop}
theorem Kept.refl (w : World) (O : Nat → Prop) : Kept w w O := ⟨rfl, rfl, rfl, Nat.le_refl _, fun _ _ _ => rfl⟩
theorem Kept.drew (h : Kept w w1 O) : Kept w w1.drew O := ⟨h.os, h.tape, h.output, h.size, h.block⟩
theorem Kept.drewN (h : Kept w w1 O) (n : Nat) : Kept w (w1.drewN n) O := ⟨h.os, h.tape, h.output, h.size, h.block⟩
theorem Kept.alloc (h : Kept w w1 O) (o : Obj) : Kept w (w1.alloc o) O :=
  ⟨h.os, h.tape, h.output, Nat.le_trans h.size (le_alloc _ _), fun i hi hO => (Below.heap_alloc w1 o i (Nat.lt_of_lt_of_le hi h.size)).trans (h.block i hi hO)⟩
theorem Kept.setCell (h : Kept w w1 O) {p : Addr} (hp : p.block < w.heap.size → O p.block) (u : Value) : Kept w (w1.setCell p u) O :=
  ⟨h.os, h.tape, h.output, by simpa [World.setCell] using h.size, fun i hi hO => (Below.heap_setCell w1 p u i (fun e => hO (e ▸ hp (e ▸ hi)))).trans (h.block i hi hO)⟩
theorem Kept.setCells (h : Kept w w1 O) {g : Nat} (hp : g < w.heap.size → O g) : ∀ (vs : List Value) (o : Nat), Kept w (w1.setCells g o vs) O := by
  intro vs
  induction vs generalizing w1 with
  | nil => intro o; exact h
  | cons v r ih => intro o; exact ih (h.setCell (p := ⟨g, o, none⟩) hp v) (o + 1)
theorem Kept.grown (h : Kept w w1 O) {r : Option Nat} (hg : w1.grownBy w2 r) (hr : ∀ b, r = some b → b < w.heap.size → O b) : Kept w w2 O :=
  ⟨hg.os.trans h.os, hg.tape.trans h.tape, hg.output.trans h.output, Nat.le_trans h.size hg.size, fun i hi hO => (hg.block i (Nat.lt_of_lt_of_le hi h.size) (fun e => hO (hr i e.symm hi))).trans (h.block i hi hO)⟩
theorem Kept.trans (h : Kept w w1 O) (g : Kept w1 w2 O') (hO : ∀ i, i < w.heap.size → O' i → O i) : Kept w w2 O :=
  ⟨g.os.trans h.os, g.tape.trans h.tape, g.output.trans h.output, Nat.le_trans h.size g.size, fun i hi hn => (g.block i (Nat.lt_of_lt_of_le hi h.size) (fun e => hn (hO i hi e))).trans (h.block i hi hn)⟩
theorem Kept.mono (h : Kept w w1 O) (hO : ∀ i, i < w.heap.size → O i → O' i) : Kept w w1 O' := ⟨h.os, h.tape, h.output, h.size, fun i hi hn => h.block i hi (fun e => hn (hO i hi e))⟩
theorem Kept.below (h : Kept w w1 O) {B : Nat} (hB : B ≤ w.heap.size) (hO : ∀ i, O i → B ≤ i) : Below B w w1 := ⟨h.os, h.tape, h.output, h.size, fun i hi => h.block i (by omega) (fun e => by have := hO i e; omega)⟩
theorem Kept.of_below (h : Below w.heap.size w w1) (O : Nat → Prop) : Kept w w1 O := ⟨h.os, h.tape, h.output, h.size, fun i hi _ => h.block i hi⟩
theorem Kept.cell (h : Kept w w1 O) {p : Addr} (hp : p.block < w.heap.size) (hO : ¬ O p.block) : w1.cell? p = w.cell? p := World.cell?_of_block (h.block _ hp hO)
theorem Kept.frozen (h : Kept w w1 O) {p : Addr} (hp : p.block < w.heap.size) (hO : ¬ O p.block) : w1.frozen? p = w.frozen? p := World.frozen?_of_block (h.block _ hp hO)
theorem Kept.cell_some (h : Kept w w1 O) {p : Addr} {v : Value} (hv : w.cell? p = some v) (hO : ¬ O p.block) : w1.cell? p = some v := (h.cell (lt_of_cell hv) hO).trans hv
theorem Kept.own (h : Kept w w1 O) {g : Nat} {l : List UInt8} (ho : Own w g l) (hg : g < w.heap.size) (hO : ¬ O g) : Own w1 g l := ho.keep (h.block g hg hO)
theorem Kept.lies (h : Kept w w1 O) {A : Option Addr} {xs : List Value} (hl : Lies w A xs) (hO : 0 < xs.length → ∀ ad, A = some ad → ¬ O ad.block) : Lies w1 A xs := fun hn => by
  obtain ⟨ad, e, hc⟩ := hl hn
  refine ⟨ad, e, fun j hj => h.cell_some (hc j hj) ?_⟩
  rw [block_of_add]
  exact hO hn ad e
end

theorem Own.setCells {w : World} {g : Nat} {l : List UInt8} (h : Own w g l) (o : Nat) (p : List UInt8) (hp : o + p.length ≤ l.length) : Own (w.setCells g o (u8s p)) g (M.splice l o p) := by
  have hlen := M.splice_length l o p hp
  refine ⟨fun j hj => ?_, fun j hj => ?_⟩
  · rw [hlen] at hj
    by_cases hin : o ≤ j ∧ j < o + p.length
    · obtain ⟨i, rfl⟩ : ∃ i, j = o + i := ⟨j - o, by omega⟩
      rw [World.cell?_setCells_in g (u8s p) o w (fun i hi => by rw [u8s_length] at hi; rw [h.1 (o + i) (by omega)]; rfl) i (by rw [u8s_length]; omega)]
      have e := M.splice_in l o p i hp (by omega)
      rw [List.getElem?_eq_getElem (by rw [hlen]; exact hj)] at e
      injection e with e
      rw [e]
      simp [u8s]
    · have ho : j < o ∨ o + (u8s p).length ≤ j := by rw [u8s_length]; omega
      rw [World.cell?_setCells_out g (u8s p) o w _ (fun _ _ => ho), h.1 j hj]
      have e := M.splice_out l o p j hp (by omega)
      rw [List.getElem?_eq_getElem (by rw [hlen]; exact hj), List.getElem?_eq_getElem hj] at e
      injection e with e
      rw [e]
  · rw [hlen] at hj
    rw [World.frozen?_setCells]
    exact h.2 j hj

/-! Keys and pages of the map. -/
theorem laidOut : laidOutB Try.prog = true := by kernel_rfl
theorem row68 : (90 : TypeId) < Try.prog.types.size := of_decide_eq_true (by kernel_rfl)
theorem wide68 : (match Try.prog.underlying 90 with | some (.array _ _) | some (.struct _) => true | _ => false) = true := by rw [Try.underlying90]
theorem keyed : Keyed Try.prog 90 := Keyed.of_law (deep_law_laid laidOut (m := 2) (by omega) row68 (by kernel_rfl) wide68)
theorem arr68 : WideMaps.ArrKey Try.prog 90 3 2 := ⟨Try.underlying90, by kernel_rfl, by kernel_rfl, by kernel_rfl⟩
theorem zero32 (w : World) : (zeroValue 34).run Try.prog w = .ok (.slice none 0 0) w := by kernel_rfl

def keyV (k : Nat) : Value := .agg #[.int .i64 ((k / 1024 : Nat) : Int), .int .i64 ((k % 1024 : Nat) : Int)]
def keyL (k : Nat) : Lit := .string (keyBytes [.int .i64 ((k / 1024 : Nat) : Int), .int .i64 ((k % 1024 : Nat) : Int)])
theorem key_of (k : Nat) (hk : k < 4503599627370496) : keyOf Try.prog 90 (keyV k) = some (keyL k) :=
  WideMaps.keyOf_pair arr68 Try.underlying3 ⟨_, (Nat.succ_pred_eq_of_pos (Nat.lt_of_le_of_lt (Nat.zero_le _) row68)).symm⟩ (WalkArith.wf_i64 (by omega)) (WalkArith.wf_i64 (by omega))
theorem keyL_inj {a b : Nat} (ha : a < 4503599627370496) (hb : b < 4503599627370496) (h : keyL a = keyL b) : a = b := by
  have := keyed.inj (key_of a ha) (h ▸ key_of b hb)
  simp only [keyV, Value.agg.injEq, Array.mk.injEq, List.cons.injEq, Value.int.injEq, true_and, and_true] at this
  omega

/-- How a page among the elements reads: by its block. -/
def pageEl (v : Value) : Option (DataW Unit × List MemPlace) :=
  match v with
  | .slice none 0 0 => some (.nil, [])
  | .slice (some ⟨g, 0, none⟩) 4096 c => if 4096 ≤ c then some (.lit (.int .u64 (g : Int)), []) else none
  | _ => none
theorem pageEl_mk (g c : Nat) (hc : 4096 ≤ c) : pageEl (.slice (some ⟨g, 0, none⟩) 4096 c) = some (.lit (.int .u64 (g : Int)), []) := by simp [pageEl, hc]
theorem pageEl_nil {v : Value} {ps : List MemPlace} (h : pageEl v = some (.nil, ps)) : v = .slice none 0 0 := by
  unfold pageEl at h
  split at h
  · rfl
  · split at h <;> simp at h
  · simp at h
theorem pageEl_lit {v : Value} {g : Nat} {ps : List MemPlace} (h : pageEl v = some (.lit (.int .u64 (g : Int)), ps)) : ∃ c, v = .slice (some ⟨g, 0, none⟩) 4096 c ∧ 4096 ≤ c := by
  unfold pageEl at h
  split at h
  · simp at h
  · split at h
    · rename_i c hc
      simp at h
      obtain ⟨h, _⟩ := h
      have : g = _ := (Int.ofNat_inj.1 h).symm
      subst this
      exact ⟨c, rfl, hc⟩
    · simp at h
  · simp at h

/-! A space. -/
abbrev Pgs := Nat → Option (Nat × List UInt8)
/-- Its bytes. -/
def bytesOf (G : Pgs) : Nat → UInt8 := M.flat fun k => (G k).map (·.2)
/-- How many of the first pages are laid. -/
def cntOf (G : Pgs) : Nat → Nat
  | 0 => 0
  | n + 1 => cntOf G n + if (G n).isSome = true then 1 else 0
theorem cntOf_le (G : Pgs) (n : Nat) : cntOf G n ≤ n := by
  induction n with
  | zero => exact Nat.le_refl _
  | succ n ih => unfold cntOf; split <;> omega
def setG (G : Pgs) (k : Nat) (x : Nat × List UInt8) : Pgs := fun j => if j = k then some x else G j
theorem setG_same (G : Pgs) (k : Nat) (x : Nat × List UInt8) : setG G k x k = some x := by simp [setG]
theorem setG_other (G : Pgs) {k j : Nat} (x : Nat × List UInt8) (h : j ≠ k) : setG G k x j = G j := by simp [setG, h]
theorem cntOf_setG (G : Pgs) (k : Nat) (x : Nat × List UInt8) (n : Nat) (h : G k = none) : cntOf (setG G k x) n = cntOf G n + if k < n then 1 else 0 := by
  induction n with
  | zero => simp [cntOf]
  | succ n ih =>
    unfold cntOf
    rw [ih]
    by_cases e : n = k
    · subst e
      rw [setG_same, h]
      simp
    · rw [setG_other G x e]
      by_cases h1 : k < n
      · simp only [h1, show k < n + 1 by omega, if_true]; omega
      · simp only [h1, show ¬ k < n + 1 by omega, if_false]; omega
theorem cntOf_setG' (G : Pgs) (k : Nat) (x : Nat × List UInt8) (n : Nat) (h : (G k).isSome = true) : cntOf (setG G k x) n = cntOf G n := by
  induction n with
  | zero => rfl
  | succ n ih =>
    unfold cntOf
    rw [ih]
    by_cases e : n = k
    · subst e
      rw [setG_same, h]
      simp
    · rw [setG_other G x e]
theorem bytesOf_setG (G : Pgs) (k o : Nat) (g : Nat) (p l : List UInt8) (hp : p.length = 4096) (hl : o + l.length ≤ 4096) (h : (G k).map (·.2) = some p ∨ G k = none ∧ p = List.replicate 4096 0) :
    bytesOf (setG G k (g, M.splice p o l)) = M.wr (bytesOf G) (k * 4096 + o) l := by
  unfold bytesOf
  rw [← M.flat_wr _ k o p l hp hl (h.imp id (fun h => ⟨by rw [h.1]; rfl, h.2⟩))]
  congr 1
  funext j
  unfold M.setPg
  by_cases e : j = k
  · subst e; simp [setG_same]
  · rw [setG_other G _ e, if_neg e]

/-- What block belongs to a space. -/
def Mine (s m : Nat) (G : Pgs) (b : Nat) : Prop := b = s ∨ b = m ∨ ∃ k l, G k = some (b, l)

/-- The map of a space. -/
structure IsMap (w : World) (m P : Nat) (G : Pgs) (D : DataW Unit) : Prop where
  own : w.ownsMap Try.prog 90 pageEl m (Maps.size D) D
  at' : ∀ k, k < P → ∀ zd, D.atKey (keyL k) zd = match G k with | some x => .lit (.int .u64 (x.1 : Int)) | none => zd
  keys : ∀ kl, Maps.has D kl = true → ∃ k, k < P ∧ kl = keyL k
  cnt : Maps.size D = cntOf G P

structure IsSp (w : World) (s m P T : Nat) (G : Pgs) : Prop where
  c0 : w.cell? ⟨s, 0, none⟩ = some (.int .i64 (P : Int))
  c1 : w.cell? ⟨s, 1, none⟩ = some (.map (some m))
  c2 : w.cell? ⟨s, 2, none⟩ = some (.int .i64 (T : Int))
  f2 : w.frozen? ⟨s, 2, none⟩ = false
  map : ∃ D, IsMap w m P G D
  pos : 1 ≤ P
  top : P ≤ 1048576
  page : ∀ k g l, G k = some (g, l) → k < P ∧ Own w g l ∧ l.length = 4096 ∧ g < w.heap.size ∧ g ≠ s ∧ g ≠ m
  inj : ∀ k j g l l', G k = some (g, l) → G j = some (g, l') → k = j

theorem exact_size {w : World} {m n : Nat} {D : DataW Unit} (h : w.ownsMap Try.prog 90 pageEl m n D) : w.ownsMap Try.prog 90 pageEl m (Maps.size D) D := by
  obtain ⟨es, clock, hb, F, hs, rfl⟩ := h
  exact ⟨es, clock, hb, F, by simp [Maps.size, length_sorted], rfl⟩

section
variable {w w' : World} {s m P T : Nat} {G : Pgs}
theorem IsMap.lt {D : DataW Unit} (h : IsMap w m P G D) : m < w.heap.size := h.own.lt
theorem IsMap.kept {D : DataW Unit} (h : IsMap w m P G D) (hb : w'.heap[m]? = w.heap[m]?) : IsMap w' m P G D := by
  refine ⟨?_, h.at', h.keys, h.cnt⟩
  obtain ⟨es, clock, hx, r⟩ := h.own
  exact ⟨es, clock, hb.trans hx, r⟩
theorem IsSp.slt (h : IsSp w s m P T G) : s < w.heap.size := lt_of_cell h.c0
theorem IsSp.mlt (h : IsSp w s m P T G) : m < w.heap.size := h.map.choose_spec.lt
theorem IsSp.ne (h : IsSp w s m P T G) : m ≠ s := fun e => by
  obtain ⟨D, hD⟩ := h.map
  obtain ⟨es, clock, hx, _⟩ := hD.own
  have := h.c0
  subst e
  simp [World.cell?, hx] at this
theorem IsSp.mine_lt (h : IsSp w s m P T G) {b : Nat} (hb : Mine s m G b) : b < w.heap.size := by
  rcases hb with rfl | rfl | ⟨k, l, e⟩
  · exact h.slt
  · exact h.mlt
  · exact (h.page k b l e).2.2.2.1
/-- A space stays while others' blocks are written. -/
theorem IsSp.kept (h : IsSp w s m P T G) {O : Nat → Prop} (hk : Kept w w' O) (hO : ∀ b, Mine s m G b → ¬ O b) : IsSp w' s m P T G := by
  have hs := hO s (Or.inl rfl)
  have hm := hO m (Or.inr (Or.inl rfl))
  obtain ⟨D, hD⟩ := h.map
  refine ⟨hk.cell_some h.c0 hs, hk.cell_some h.c1 hs, hk.cell_some h.c2 hs, (hk.frozen (p := ⟨s, 2, none⟩) h.slt hs).trans h.f2, ⟨D, hD.kept (hk.block m h.mlt hm)⟩, h.pos, h.top, fun k g l e => ?_, h.inj⟩
  obtain ⟨h1, h2, h3, h4, h5⟩ := h.page k g l e
  exact ⟨h1, hk.own h2 h4 (hO g (Or.inr (Or.inr ⟨k, l, e⟩))), h3, Nat.lt_of_lt_of_le h4 hk.size, h5⟩
theorem IsSp.drew (h : IsSp w s m P T G) : IsSp w.drew s m P T G := h.kept (O := fun _ => False) (Kept.refl _ _).drew (fun _ _ h => h)
theorem IsSp.drewN (h : IsSp w s m P T G) (n : Nat) : IsSp (w.drewN n) s m P T G := h.kept (O := fun _ => False) ((Kept.refl _ _).drewN n) (fun _ _ h => h)
theorem IsSp.alloc (h : IsSp w s m P T G) (o : Obj) : IsSp (w.alloc o) s m P T G := h.kept (O := fun _ => False) ((Kept.refl _ _).alloc o) (fun _ _ h => h)

/-- 'page, ok := s.laid[key]', of a page that is laid. -/
theorem IsSp.look (h : IsSp w s m P T G) (k g : Nat) (l : List UInt8) (e : G k = some (g, l)) : ∃ c, 4096 ≤ c ∧ ∀ W : World, W.heap[m]? = w.heap[m]? →
    (Instr.lookup 65 (.map (some m)) (keyV k) true).run Try.prog W = .ok (.tuple #[.slice (some ⟨g, 0, none⟩) 4096 c, .bool true]) W ∧
    (Instr.lookup 65 (.map (some m)) (keyV k) false).run Try.prog W = .ok (.slice (some ⟨g, 0, none⟩) 4096 c) W := by
  obtain ⟨D, hD⟩ := h.map
  have hk := (h.page k g l e).1
  have ht := h.top
  have hat := fun zd => (hD.at' k hk zd).trans (by rw [e])
  obtain ⟨es, clock, hb, F, _, rfl⟩ := hD.own
  have hn : es.toList.Pairwise (fun x y => x.key ≠ y.key) := ((MapKept.stamped_iff es clock).1 F.stamped).2.2
  have uniq : ∀ {x y : MapEntry}, x ∈ es.toList → y ∈ es.toList → x.key = y.key → x = y := fun {x y} hx hy hxy => by
    obtain ⟨i, hi, rfl⟩ := List.getElem_of_mem hx
    obtain ⟨j, hj, rfl⟩ := List.getElem_of_mem hy
    rcases Nat.lt_trichotomy i j with h1 | h1 | h1
    · exact absurd hxy (List.pairwise_iff_getElem.1 hn i j hi hj h1)
    · subst h1; rfl
    · exact absurd hxy.symm (List.pairwise_iff_getElem.1 hn j i hj hi h1)
  rcases Maps.fit_look true keyed Try.underlying65 (zero32 w) hb F (key_of k (by omega)) with ⟨_, hno, hz⟩ | ⟨e0, y, hm0, hke, hr1, hR, hy, _⟩
  · have := (hz .nil).symm.trans (hat .nil)
    cases this
  · have hyy : y.1 = .lit (.int .u64 (g : Int)) := (hy .nil).symm.trans (hat .nil)
    obtain ⟨c, hv, hc⟩ := pageEl_lit (ps := y.2) (g := g) (v := e0.val) (by rw [hR, ← hyy])
    refine ⟨c, hc, fun W hW => ?_⟩
    have hbW := hW.trans hb
    have both : ∀ cc, (Instr.lookup 65 (.map (some m)) (keyV k) cc).run Try.prog W = .ok (if cc then .tuple #[e0.val, .bool true] else e0.val) W := fun cc => by
      rcases Maps.fit_look cc keyed Try.underlying65 (zero32 W) hbW F (key_of k (by omega)) with ⟨_, hno, hz⟩ | ⟨e1, y1, hm1, hke1, hr2, _⟩
      · exact absurd hke (hno e0 hm0)
      · rw [hr2, uniq hm1 hm0 (hke1.trans hke.symm)]
    have b1 := both true
    have b2 := both false
    simp only [if_true, Bool.false_eq_true, if_false, hv] at b1 b2
    exact ⟨b1, b2⟩
/-- .. of one that isn't. -/
theorem IsSp.look_no (h : IsSp w s m P T G) (k : Nat) (hk : k < P) (e : G k = none) :
    (Instr.lookup 65 (.map (some m)) (keyV k) true).run Try.prog w = .ok (.tuple #[.slice none 0 0, .bool false]) w := by
  obtain ⟨D, hD⟩ := h.map
  have ht := h.top
  have hat := fun zd => (hD.at' k hk zd).trans (by rw [e])
  obtain ⟨v, ps, hrun, hv⟩ := hD.own.look_ok keyed Try.underlying65 (zero32 w) (zd := .nil) (zp := []) rfl (key_of k (by omega))
  rw [hat] at hv
  rw [Maps.has_false_of_atKey hat] at hrun
  rw [pageEl_nil hv] at hrun
  exact hrun
end
end Go.Proofs.Ytacognejefeboaa
