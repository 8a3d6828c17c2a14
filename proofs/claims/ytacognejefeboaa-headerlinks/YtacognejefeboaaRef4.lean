/-
  The document's log, one entry longer.
-/
import Derived.Test.YtacognejefeboaaRef3
namespace Go.Proofs.Ytacognejefeboaa
open Go.ChangeShapes Go.WideShapes Go.ChangeAt Go.RowKit
set_option linter.unusedVariables false
set_option maxRecDepth 20000

abbrev entV (e : M.Ent) : Value := .agg #[.int .u64 (e.at' : Int), .int .u64 (e.n : Int), .string ⟨e.data.toArray⟩, .bool e.zero]
theorem row74 : ∃ i, Try.prog.info? 86 = some i ∧ i.zero = some (.agg #[.int .u64 0, .int .u64 0, .string ⟨#[]⟩, .bool false]) ∧ i.size = 4 ∧ i.bytes = 40 :=
  info_parts (P := Try.prog) (e := 86) (z := .agg #[.int .u64 0, .int .u64 0, .string ⟨#[]⟩, .bool false]) (size := 4) (bytes := 40) (by kernel_rfl)
theorem log_of_row {w : World} {base g n cap : Nat} {l : List M.Ent} (h : w.ownsRow base 86 4 (.slice (some ⟨g, 0, none⟩) n cap) n (logCells l)) : LogAt w (some ⟨g, 0, none⟩) l := fun hn => by
  refine ⟨_, rfl, fun j hj => ?_⟩
  exact h.cells (g := g) rfl j _ (List.getElem?_eq_getElem hj)

theorem put_world (w : World) (S E R : Array Value) :
    let W := ((w.alloc (.cells S 29)).alloc (.cells E 86)).alloc (.cells R 29)
    (∀ j, W.cell? ⟨w.heap.size, j, none⟩ = S[j]?) ∧ (∀ j, W.cell? ⟨w.heap.size + 1, j, none⟩ = E[j]?) ∧ (∀ j, W.cell? ⟨w.heap.size + 1 + 1, j, none⟩ = R[j]?) ∧ (∀ j, W.frozen? ⟨w.heap.size, j, none⟩ = false) ∧ (∀ j, W.frozen? ⟨w.heap.size + 1 + 1, j, none⟩ = false) ∧
      W.heap.size = w.heap.size + 3 ∧ Kept w W (fun _ => False) := by
  intro W
  have z1 : (w.alloc (.cells S 29)).heap.size = w.heap.size + 1 := by simp
  have z2 : ((w.alloc (.cells S 29)).alloc (.cells E 86)).heap.size = w.heap.size + 1 + 1 := by simp
  have z3 : W.heap.size = w.heap.size + 3 := by show (World.alloc _ _).heap.size = _; simp
  have b0 : W.heap[w.heap.size]? = (w.alloc (.cells S 29)).heap[w.heap.size]? := by
    show (World.alloc _ _).heap[w.heap.size]? = _
    rw [Below.heap_alloc _ _ _ (by rw [z2]; omega), Below.heap_alloc _ _ _ (by rw [z1]; omega)]
  have b1 : W.heap[w.heap.size + 1]? = ((w.alloc (.cells S 29)).alloc (.cells E 86)).heap[w.heap.size + 1]? := by
    show (World.alloc _ _).heap[w.heap.size + 1]? = _
    rw [Below.heap_alloc _ _ _ (by rw [z2]; omega)]
  refine ⟨fun j => ?_, fun j => ?_, fun j => ?_, fun j => ?_, fun j => ?_, z3, (((Kept.refl w (fun _ => False)).alloc _).alloc _).alloc _⟩
  · rw [World.cell?_of_block (a := ⟨w.heap.size, j, none⟩) b0, World.cell?_alloc_mark]
  · rw [World.cell?_of_block (a := ⟨w.heap.size + 1, j, none⟩) b1]
    have := World.cell?_alloc_mark (w.alloc (.cells S 29)) E 86 (0, 0) j
    rw [z1] at this
    exact this
  · have := World.cell?_alloc_mark ((w.alloc (.cells S 29)).alloc (.cells E 86)) R 29 (0, 0) j
    rw [z2] at this
    exact this
  · rw [World.frozen?_of_block (a := ⟨w.heap.size, j, none⟩) b0, World.frozen?_alloc_mark]
    simp
  · have := World.frozen?_alloc_mark ((w.alloc (.cells S 29)).alloc (.cells E 86)) R 29 0 0 j
    rw [z2] at this
    rw [this]
    simp

set_option maxHeartbeats 1000000 in
theorem rput_none (w : World) (P : Nat)  (T tk : Nat) (l : List M.Ent) (e : M.Ent) (hn : l = []) (hT : T + tk < 9223372036854775808) :
    Calls Try.prog 39 #[refV P none 0 0 T, entV e, .int .i64 (tk : Int)] w fun r w' => ∃ g c', r = .returned (refV P (some ⟨g, 0, none⟩) (0 + 1) c' (T + tk)) ∧ LogAt w' (some ⟨g, 0, none⟩) (l ++ [e]) ∧ w.heap.size ≤ g ∧ g < w'.heap.size ∧ Below w.heap.size w w' := by
  obtain ⟨i, hi, hz, h1, h2⟩ := row74
  have HI := Lib.hid (show _ ∧ _ ∧ _ ∧ _ from ⟨hi, hz, h1, h2⟩)
  clear hi hz h1 h2
  subst hn
  obtain ⟨ea, en, ed, ez⟩ := e
  have HE := Lib.hid (show entCells ⟨ea, en, ed, ez⟩ = [.int .u64 (ea : Int), .int .u64 (en : Int), .string ⟨ed.toArray⟩, .bool ez] from rfl)
  simp only [entV]
  go_enter Try.func39, Try.ntmps39
  go_upto_region 2 with fail
  obtain ⟨f0, f1, f2, f3, f4, f5, f6⟩ := put_world w #[.int .i64 (P : Int), .slice none 0 0, .int .i64 (T : Int)] #[.int .u64 (ea : Int), .int .u64 (en : Int), .string ⟨ed.toArray⟩, .bool ez] #[.int .i64 0, .slice none 0 0, .int .i64 0]
  generalize hw3 : ((w.alloc (.cells #[.int .i64 (P : Int), .slice none 0 0, .int .i64 (T : Int)] 29)).alloc (.cells #[.int .u64 (ea : Int), .int .u64 (en : Int), .string ⟨ed.toArray⟩, .bool ez] 86)).alloc (.cells #[.int .i64 0, .slice none 0 0, .int .i64 0] 29) = w3 at *
  clear hw3
  generalize hb3 : w.heap.size + 1 + 1 = b3 at f2 f4 ⊢
  generalize hb2 : w.heap.size + 1 = b2 at f1 ⊢
  generalize hb1 : w.heap.size = b1 at f0 f3 ⊢
  have HB := Lib.hid (show b1 = w.heap.size ∧ b2 = w.heap.size + 1 ∧ b3 = w.heap.size + 2 ∧ w3.heap.size = w.heap.size + 3 from ⟨hb1.symm, hb2.symm, by omega, f5⟩)
  have hb12 : b1 < b2 := by omega
  have hb23 : b2 < b3 := by omega
  have hb3l : b3 < w3.heap.size := by omega
  have K3 := Lib.hid f6
  clear hb1 hb2 hb3 f5 f6
  have HF := Lib.hid (show (∀ j, w3.cell? ⟨b1, j, none⟩ = _) ∧ (∀ j, w3.cell? ⟨b2, j, none⟩ = _) ∧ (∀ j, w3.cell? ⟨b3, j, none⟩ = _) ∧ (∀ j, w3.frozen? ⟨b1, j, none⟩ = false) ∧ (∀ j, w3.frozen? ⟨b3, j, none⟩ = false) from ⟨f0, f1, f2, f3, f4⟩)
  have g10 : w3.cell? ⟨b1, 1, none⟩ = some (.slice none 0 0) := f0 1
  clear f0 f1 f2 f3 f4
  go_upto_region 3 with fail
  obtain ⟨w4, hw4⟩ : ∃ w4, w4 = w3 := ⟨_, rfl⟩
  have HG1 := Lib.hid (show True ∧ Kept w3 w4 (fun _ => False) ∧ w4.ownsRow w.heap.size 86 4 (.slice none 0 0) 0 (logCells []) from ⟨trivial, by rw [hw4]; exact Kept.refl _ _, World.ownsRow_nil _ _ _ _⟩)
  rw [← hw4]
  clear hw4 g10
  have hk4 := HG1.out.2.1
  have e20 : w4.cell? ⟨b2, 0, none⟩ = some (.int .u64 (ea : Int)) := hk4.cell_some (HF.out.2.1 0) (fun h => h)
  have e21 : w4.cell? ⟨b2, 1, none⟩ = some (.int .u64 (en : Int)) := hk4.cell_some (HF.out.2.1 1) (fun h => h)
  have e22 : w4.cell? ⟨b2, 2, none⟩ = some (.string ⟨ed.toArray⟩) := hk4.cell_some (HF.out.2.1 2) (fun h => h)
  have e23 : w4.cell? ⟨b2, 3, none⟩ = some (.bool ez) := hk4.cell_some (HF.out.2.1 3) (fun h => h)
  have hb4 : b3 < w4.heap.size := Nat.lt_of_lt_of_le hb3l hk4.size
  obtain ⟨lit, hlit⟩ : ∃ lit, lit = Obj.cells #[.int .u64 (ea : Int), .int .u64 (en : Int), .string ⟨ed.toArray⟩, .bool ez] 86 := ⟨_, rfl⟩
  have hnew2 : ∀ j u, (entCells ⟨ea, en, ed, ez⟩)[j]? = some u → (w4.alloc (.cells #[.int .u64 (ea : Int), .int .u64 (en : Int), .string ⟨ed.toArray⟩, .bool ez] 86)).cell? ((⟨w4.heap.size, 0, none⟩ : Addr).add j) = some u := fun j u hu => by
    rw [show (⟨w4.heap.size, 0, none⟩ : Addr).add j = ⟨w4.heap.size, j, none⟩ by unfold Addr.add; split <;> simp_all, World.cell?_alloc_mark, ← hu]
    simp [entCells]
  have HN2 := Lib.hid hnew2
  have HR2 := Lib.hid (HG1.out.2.2.alloc (.cells #[.int .u64 (ea : Int), .int .u64 (en : Int), .string ⟨ed.toArray⟩, .bool ez] 86))
  have hbase4 : w.heap.size ≤ (w4.alloc (.cells #[.int .u64 (ea : Int), .int .u64 (en : Int), .string ⟨ed.toArray⟩, .bool ez] 86)).heap.size := by have := HB.out; simp; omega
  clear hk4 hnew2 hlit
  go_wp2_with (first | (at_builtin; refine wpList_append_lies _ rfl _ _ 27 rfl w.heap.size 86 i (.agg #[.int .u64 0, .int .u64 0, .string ⟨#[]⟩, .bool false]) 4 40 Try.underlying27 HI.out.1 HI.out.2.1 HI.out.2.2.1 HI.out.2.2.2 rfl (by decide) (.slice none 0 0) 0 (logCells []) rfl HR2.out ⟨w4.heap.size, 0, none⟩ 1 1 (entCells ⟨ea, en, ed, ez⟩) rfl rfl HN2.out (by have := logCells_one [⟨ea, en, ed, ez⟩]; simpa [logCells] using this) (by decide) (by unfold maxLen; omega) (by omega) hbase4 _ rfl ?_; intro g2 c2 w6 hrow hgr hat hlt; (have k6 : Kept w3 w6 (fun _ => False) := (HG1.out.2.1.alloc _).grown hgr (fun b e hb => by simp [Value.ownBlock] at e)); (have p10 : w6.cell? ⟨b1, 0, none⟩ = some (.int .i64 (P : Int)) := k6.cell_some (HF.out.1 0) (fun h => h)); (have p11 : w6.cell? ⟨b1, 1, none⟩ = some (.slice none 0 0) := k6.cell_some (HF.out.1 1) (fun h => h)); (have p12 : w6.cell? ⟨b1, 2, none⟩ = some (.int .i64 (T : Int)) := k6.cell_some (HF.out.1 2) (fun h => h)); (have p30 : w6.cell? ⟨b3, 0, none⟩ = some (.int .i64 0) := k6.cell_some (HF.out.2.2.1 0) (fun h => h)); (have p31 : w6.cell? ⟨b3, 1, none⟩ = some (.slice none 0 0) := k6.cell_some (HF.out.2.2.1 1) (fun h => h)); (have p32 : w6.cell? ⟨b3, 2, none⟩ = some (.int .i64 0) := k6.cell_some (HF.out.2.2.1 2) (fun h => h)); (have q1 : ∀ j, w6.frozen? ⟨b1, j, none⟩ = false := fun j => (k6.frozen (p := ⟨b1, j, none⟩) (by show b1 < _; omega) (fun h => h)).trans (HF.out.2.2.2.1 j)); (have q3 : ∀ j, w6.frozen? ⟨b3, j, none⟩ = false := fun j => (k6.frozen (p := ⟨b3, j, none⟩) hb3l (fun h => h)).trans (HF.out.2.2.2.2 j)); (have hsum : wrap64 ((T : Int) + (tk : Int)) = ((T + tk : Nat) : Int) := by unfold wrap64; omega); (have HH := Lib.hid (show _ ∧ _ ∧ _ ∧ _ from ⟨hrow, hat, hlt, k6⟩)); clear hrow hgr hat hlt k6 e20 e21 e22 e23) | go_in)
  refine bodyPost_ret (v := .agg #[.int .i64 (P : Int), .slice (some ⟨g2, 0, none⟩) (1) c2, .int .i64 ((T : Int) + (tk : Int))]) ?_ rfl ?_
  · have n13 : b1 ≠ b3 := by omega
    simp [results, go_sem, p30, p31, p32]
  · obtain ⟨hrow, hat, hlt, k6⟩ := HH.out
    have k7 : ∀ v1 v2 v3 v4 v5, Kept w6 (((((w6.setCell ⟨b1, 1, none⟩ v1).setCell ⟨b1, 2, none⟩ v2).setCell ⟨b3, 0, none⟩ v3).setCell ⟨b3, 1, none⟩ v4).setCell ⟨b3, 2, none⟩ v5) (fun b => b = b1 ∨ b = b3) := fun v1 v2 v3 v4 v5 =>
      (((((Kept.refl w6 (fun b => b = b1 ∨ b = b3)).setCell (p := ⟨b1, 1, none⟩) (fun _ => Or.inl rfl) v1).setCell (p := ⟨b1, 2, none⟩) (fun _ => Or.inl rfl) v2).setCell (p := ⟨b3, 0, none⟩) (fun _ => Or.inr rfl) v3).setCell (p := ⟨b3, 1, none⟩) (fun _ => Or.inr rfl) v4).setCell (p := ⟨b3, 2, none⟩) (fun _ => Or.inr rfl) v5
    have hk7 := k7 (.slice (some ⟨g2, 0, none⟩) (1) c2) (.int .i64 ((T : Int) + (tk : Int))) (.int .i64 (P : Int)) (.slice (some ⟨g2, 0, none⟩) (1) c2) (.int .i64 ((T : Int) + (tk : Int)))
    have z4 := HG1.out.2.1.size
    have hbb := HB.out
    have z5 : (w4.alloc (.cells #[.int .u64 (ea : Int), .int .u64 (en : Int), .string ⟨ed.toArray⟩, .bool ez] 86)).heap.size = w4.heap.size + 1 := by simp
    have hg2 : w3.heap.size ≤ g2 := by
      rcases hat with h | h
      · simp [Value.ownBlock] at h
      · omega
    have hlog : LogAt w6 (some ⟨g2, 0, none⟩) ([⟨ea, en, ed, ez⟩]) := by
      have hrow : w6.ownsRow w.heap.size 86 4 (.slice (some ⟨g2, 0, none⟩) 1 c2) 1 (logCells [⟨ea, en, ed, ez⟩]) := hrow
      exact log_of_row hrow
    refine ⟨g2, c2, by simp [refV], hk7.lies hlog (fun _ ad e h => ?_), by omega, Nat.lt_of_lt_of_le hlt hk7.size, ?_⟩
    · injection e with e
      rw [← e] at h
      have h : g2 = b1 ∨ g2 = b3 := h
      omega
    · have b6 : Below w.heap.size w w6 := (K3.out.below (Nat.le_refl _) (fun _ h => h.elim)).trans (k6.below (by omega) (fun _ h => h.elim))
      exact b6.trans (hk7.below b6.size (fun i e => by omega))

set_option maxHeartbeats 1000000 in
theorem rput_some (w : World) (P : Nat) (A : Option Addr) (n c : Nat) (T tk : Nat) (l : List M.Ent) (e : M.Ent) (hn : n = l.length) (hl : LogAt w A l) (hb : n ≤ 1000) (h0 : 0 < n) (hT : T + tk < 9223372036854775808) :
    Calls Try.prog 39 #[refV P A n c T, entV e, .int .i64 (tk : Int)] w fun r w' => ∃ g c', r = .returned (refV P (some ⟨g, 0, none⟩) (n + 1) c' (T + tk)) ∧ LogAt w' (some ⟨g, 0, none⟩) (l ++ [e]) ∧ w.heap.size ≤ g ∧ g < w'.heap.size ∧ Below w.heap.size w w' := by
  obtain ⟨i, hi, hz, h1, h2⟩ := row74
  have HI := Lib.hid (show _ ∧ _ ∧ _ ∧ _ from ⟨hi, hz, h1, h2⟩)
  clear hi hz h1 h2
  obtain ⟨ad, rfl, hcl⟩ := hl (by rw [logCells_length]; omega)
  have hcl' : ∀ j u, (logCells l)[j]? = some u → w.cell? (ad.add j) = some u := fun j u hu => by
    obtain ⟨hj, e⟩ := List.getElem?_eq_some_iff.1 hu
    rw [hcl j hj, e]
  have hadl : ad.block < w.heap.size := by
    have := lt_of_cell (hcl 0 (by rw [logCells_length]; omega))
    rwa [block_of_add] at this
  have HC := Lib.hid hcl'
  have hll : (logCells l).length = n * 4 := by rw [logCells_length, hn]
  have HLL := Lib.hid hll
  clear hcl hcl' hl hn hll
  obtain ⟨ea, en, ed, ez⟩ := e
  have HE := Lib.hid (show entCells ⟨ea, en, ed, ez⟩ = [.int .u64 (ea : Int), .int .u64 (en : Int), .string ⟨ed.toArray⟩, .bool ez] from rfl)
  simp only [entV]
  go_enter Try.func39, Try.ntmps39
  go_upto_region 2 with fail
  obtain ⟨f0, f1, f2, f3, f4, f5, f6⟩ := put_world w #[.int .i64 (P : Int), .slice (some ad) n c, .int .i64 (T : Int)] #[.int .u64 (ea : Int), .int .u64 (en : Int), .string ⟨ed.toArray⟩, .bool ez] #[.int .i64 0, .slice none 0 0, .int .i64 0]
  generalize hw3 : ((w.alloc (.cells #[.int .i64 (P : Int), .slice (some ad) n c, .int .i64 (T : Int)] 29)).alloc (.cells #[.int .u64 (ea : Int), .int .u64 (en : Int), .string ⟨ed.toArray⟩, .bool ez] 86)).alloc (.cells #[.int .i64 0, .slice none 0 0, .int .i64 0] 29) = w3 at *
  clear hw3
  generalize hb3 : w.heap.size + 1 + 1 = b3 at f2 f4 ⊢
  generalize hb2 : w.heap.size + 1 = b2 at f1 ⊢
  generalize hb1 : w.heap.size = b1 at f0 f3 ⊢
  have HB := Lib.hid (show b1 = w.heap.size ∧ b2 = w.heap.size + 1 ∧ b3 = w.heap.size + 2 ∧ w3.heap.size = w.heap.size + 3 from ⟨hb1.symm, hb2.symm, by omega, f5⟩)
  have hb12 : b1 < b2 := by omega
  have hb23 : b2 < b3 := by omega
  have hb3l : b3 < w3.heap.size := by omega
  have K3 := Lib.hid f6
  clear hb1 hb2 hb3 f5 f6
  have HF := Lib.hid (show (∀ j, w3.cell? ⟨b1, j, none⟩ = _) ∧ (∀ j, w3.cell? ⟨b2, j, none⟩ = _) ∧ (∀ j, w3.cell? ⟨b3, j, none⟩ = _) ∧ (∀ j, w3.frozen? ⟨b1, j, none⟩ = false) ∧ (∀ j, w3.frozen? ⟨b3, j, none⟩ = false) from ⟨f0, f1, f2, f3, f4⟩)
  have g10 : w3.cell? ⟨b1, 1, none⟩ = some (.slice (some ad) n c) := f0 1
  clear f0 f1 f2 f3 f4
  have hnews : ∀ j u, (logCells l)[j]? = some u → w3.cell? (ad.add j) = some u := fun j u hu => K3.out.cell_some (HC.out j u hu) (fun h => h)
  have HNW := Lib.hid hnews
  clear hnews
  go_upto_region 3 with (first | (at_builtin; refine wpList_append_lies _ rfl _ _ 27 rfl w.heap.size 86 i (.agg #[.int .u64 0, .int .u64 0, .string ⟨#[]⟩, .bool false]) 4 40 Try.underlying27 HI.out.1 HI.out.2.1 HI.out.2.2.1 HI.out.2.2.2 rfl (by decide) (.slice none 0 0) 0 [] rfl (World.ownsRow_nil _ _ _ _) ad n c (logCells l) rfl HLL.out HNW.out (logCells_one l) h0 (by unfold maxLen; omega) (by omega) (by have := HB.out; omega) _ rfl ?_; intro g1 c1 w4 hrow hgr hat hlt) | go_in)
  simp only [Nat.zero_add, List.nil_append] at hrow ⊢
  have hg1 : g1 = w3.heap.size := by
    rcases hat with h | h
    · simp [Value.ownBlock] at h
    · exact h
  have k4 : Kept w3 w4 (fun _ => False) := (Kept.refl w3 (fun _ => False)).grown hgr (fun b e _ => by simp [Value.ownBlock] at e)
  have HG1 := Lib.hid (show g1 = w3.heap.size ∧ Kept w3 w4 (fun _ => False) ∧ w4.ownsRow w.heap.size 86 4 (.slice (some ⟨g1, 0, none⟩) n c1) n (logCells l) from ⟨hg1, k4, hrow⟩)
  clear hrow hgr hat hlt hg1 k4 g10
  have hk4 := HG1.out.2.1
  have e20 : w4.cell? ⟨b2, 0, none⟩ = some (.int .u64 (ea : Int)) := hk4.cell_some (HF.out.2.1 0) (fun h => h)
  have e21 : w4.cell? ⟨b2, 1, none⟩ = some (.int .u64 (en : Int)) := hk4.cell_some (HF.out.2.1 1) (fun h => h)
  have e22 : w4.cell? ⟨b2, 2, none⟩ = some (.string ⟨ed.toArray⟩) := hk4.cell_some (HF.out.2.1 2) (fun h => h)
  have e23 : w4.cell? ⟨b2, 3, none⟩ = some (.bool ez) := hk4.cell_some (HF.out.2.1 3) (fun h => h)
  have hb4 : b3 < w4.heap.size := Nat.lt_of_lt_of_le hb3l hk4.size
  obtain ⟨lit, hlit⟩ : ∃ lit, lit = Obj.cells #[.int .u64 (ea : Int), .int .u64 (en : Int), .string ⟨ed.toArray⟩, .bool ez] 86 := ⟨_, rfl⟩
  have hnew2 : ∀ j u, (entCells ⟨ea, en, ed, ez⟩)[j]? = some u → (w4.alloc (.cells #[.int .u64 (ea : Int), .int .u64 (en : Int), .string ⟨ed.toArray⟩, .bool ez] 86)).cell? ((⟨w4.heap.size, 0, none⟩ : Addr).add j) = some u := fun j u hu => by
    rw [show (⟨w4.heap.size, 0, none⟩ : Addr).add j = ⟨w4.heap.size, j, none⟩ by unfold Addr.add; split <;> simp_all, World.cell?_alloc_mark, ← hu]
    simp [entCells]
  have HN2 := Lib.hid hnew2
  have HR2 := Lib.hid (HG1.out.2.2.alloc (.cells #[.int .u64 (ea : Int), .int .u64 (en : Int), .string ⟨ed.toArray⟩, .bool ez] 86))
  have hbase4 : w.heap.size ≤ (w4.alloc (.cells #[.int .u64 (ea : Int), .int .u64 (en : Int), .string ⟨ed.toArray⟩, .bool ez] 86)).heap.size := by have := HB.out; simp; omega
  clear hk4 hnew2 hlit
  go_wp2_with (first | (at_builtin; refine wpList_append_lies _ rfl _ _ 27 rfl w.heap.size 86 i (.agg #[.int .u64 0, .int .u64 0, .string ⟨#[]⟩, .bool false]) 4 40 Try.underlying27 HI.out.1 HI.out.2.1 HI.out.2.2.1 HI.out.2.2.2 rfl (by decide) (.slice (some ⟨g1, 0, none⟩) n c1) n (logCells l) rfl HR2.out ⟨w4.heap.size, 0, none⟩ 1 1 (entCells ⟨ea, en, ed, ez⟩) rfl rfl HN2.out (by have := logCells_one [⟨ea, en, ed, ez⟩]; simpa [logCells] using this) (by decide) (by unfold maxLen; omega) (by omega) hbase4 _ rfl ?_; intro g2 c2 w6 hrow hgr hat hlt; (have k6 : Kept w3 w6 (fun _ => False) := (HG1.out.2.1.alloc _).grown hgr (fun b e hb => by have h1 := HG1.out.1; simp [Value.ownBlock] at e; omega)); (have p10 : w6.cell? ⟨b1, 0, none⟩ = some (.int .i64 (P : Int)) := k6.cell_some (HF.out.1 0) (fun h => h)); (have p11 : w6.cell? ⟨b1, 1, none⟩ = some (.slice (some ad) n c) := k6.cell_some (HF.out.1 1) (fun h => h)); (have p12 : w6.cell? ⟨b1, 2, none⟩ = some (.int .i64 (T : Int)) := k6.cell_some (HF.out.1 2) (fun h => h)); (have p30 : w6.cell? ⟨b3, 0, none⟩ = some (.int .i64 0) := k6.cell_some (HF.out.2.2.1 0) (fun h => h)); (have p31 : w6.cell? ⟨b3, 1, none⟩ = some (.slice none 0 0) := k6.cell_some (HF.out.2.2.1 1) (fun h => h)); (have p32 : w6.cell? ⟨b3, 2, none⟩ = some (.int .i64 0) := k6.cell_some (HF.out.2.2.1 2) (fun h => h)); (have q1 : ∀ j, w6.frozen? ⟨b1, j, none⟩ = false := fun j => (k6.frozen (p := ⟨b1, j, none⟩) (by show b1 < _; omega) (fun h => h)).trans (HF.out.2.2.2.1 j)); (have q3 : ∀ j, w6.frozen? ⟨b3, j, none⟩ = false := fun j => (k6.frozen (p := ⟨b3, j, none⟩) hb3l (fun h => h)).trans (HF.out.2.2.2.2 j)); (have hsum : wrap64 ((T : Int) + (tk : Int)) = ((T + tk : Nat) : Int) := by unfold wrap64; omega); (have HH := Lib.hid (show _ ∧ _ ∧ _ ∧ _ from ⟨hrow, hat, hlt, k6⟩)); clear hrow hgr hat hlt k6 e20 e21 e22 e23) | go_in)
  refine bodyPost_ret (v := .agg #[.int .i64 (P : Int), .slice (some ⟨g2, 0, none⟩) (n + 1) c2, .int .i64 ((T : Int) + (tk : Int))]) ?_ rfl ?_
  · have n13 : b1 ≠ b3 := by omega
    simp [results, go_sem, p30, p31, p32]
  · obtain ⟨hrow, hat, hlt, k6⟩ := HH.out
    have k7 : ∀ v1 v2 v3 v4 v5, Kept w6 (((((w6.setCell ⟨b1, 1, none⟩ v1).setCell ⟨b1, 2, none⟩ v2).setCell ⟨b3, 0, none⟩ v3).setCell ⟨b3, 1, none⟩ v4).setCell ⟨b3, 2, none⟩ v5) (fun b => b = b1 ∨ b = b3) := fun v1 v2 v3 v4 v5 =>
      (((((Kept.refl w6 (fun b => b = b1 ∨ b = b3)).setCell (p := ⟨b1, 1, none⟩) (fun _ => Or.inl rfl) v1).setCell (p := ⟨b1, 2, none⟩) (fun _ => Or.inl rfl) v2).setCell (p := ⟨b3, 0, none⟩) (fun _ => Or.inr rfl) v3).setCell (p := ⟨b3, 1, none⟩) (fun _ => Or.inr rfl) v4).setCell (p := ⟨b3, 2, none⟩) (fun _ => Or.inr rfl) v5
    have hk7 := k7 (.slice (some ⟨g2, 0, none⟩) (n + 1) c2) (.int .i64 ((T : Int) + (tk : Int))) (.int .i64 (P : Int)) (.slice (some ⟨g2, 0, none⟩) (n + 1) c2) (.int .i64 ((T : Int) + (tk : Int)))
    have z4 := HG1.out.2.1.size
    have hbb := HB.out
    have z5 : (w4.alloc (.cells #[.int .u64 (ea : Int), .int .u64 (en : Int), .string ⟨ed.toArray⟩, .bool ez] 86)).heap.size = w4.heap.size + 1 := by simp
    have hg2 : w3.heap.size ≤ g2 := by
      rcases hat with h | h
      · simp [Value.ownBlock] at h; have := HG1.out.1; omega
      · omega
    have hlog : LogAt w6 (some ⟨g2, 0, none⟩) (l ++ [⟨ea, en, ed, ez⟩]) := by
      rw [← logCells_snoc] at hrow
      exact log_of_row hrow
    refine ⟨g2, c2, by simp [refV], hk7.lies hlog (fun _ ad e h => ?_), by omega, Nat.lt_of_lt_of_le hlt hk7.size, ?_⟩
    · injection e with e
      rw [← e] at h
      have h : g2 = b1 ∨ g2 = b3 := h
      omega
    · have b6 : Below w.heap.size w w6 := (K3.out.below (Nat.le_refl _) (fun _ h => h.elim)).trans (k6.below (by omega) (fun _ h => h.elim))
      exact b6.trans (hk7.below b6.size (fun i e => by omega))
end Go.Proofs.Ytacognejefeboaa
