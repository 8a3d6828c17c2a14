/-
  'slices.Clone' of a page; 'Clone' of a space.
-/
import Derived.Test.YtdchnncoddjngaaLaw
import Derived.Deep.AppendLies
namespace Go.Proofs.Ytdchnncoddjngaa
open Go.ChangeShapes Go.WideShapes Go.ChangeAt Go.RowKit
open Go.Maps (Keyed)
set_option linter.unusedVariables false

theorem own_of_row {w : World} {base g n cap : Nat} {l : List UInt8} (h : w.ownsRow base 5 1 (.slice (some ⟨g, 0, none⟩) n cap) n (u8s l)) : Own w g l ∧ n ≤ cap := by
  rcases h.2 with ⟨e, _⟩ | ⟨g', cap', cur, e, hb, hg, hn, hc, hs, ht⟩
  · cases e
  · simp only [Value.slice.injEq, Option.some.injEq, Addr.mk.injEq, and_true, true_and] at e
    obtain ⟨rfl, rfl⟩ := e
    refine ⟨⟨fun j hj => ?_, fun j hj => ?_⟩, hn⟩
    · have := h.cells (g := g) rfl j (.int .u8 (l[j].toNat : Int)) (by simp [u8s, hj])
      rw [show (⟨g, 0, none⟩ : Addr).add j = ⟨g, j, none⟩ by unfold Addr.add; split <;> simp_all] at this
      exact this
    · unfold World.frozen?
      rw [hg]
      simp

theorem row5 : ∃ i, Try.prog.info? 5 = some i ∧ i.zero = some (.int .u8 0) ∧ i.size = 1 ∧ i.bytes = 1 := info_parts (P := Try.prog) (e := 5) (z := .int .u8 0) (size := 1) (bytes := 1) (by kernel_rfl)

theorem slice_nil (a : Addr) (n c : Nat) (W : World) : (binOp .eql 32 (.slice (some a) n c) (.slice none 0 0)).run Try.prog W = .ok (.bool false) W := by kernel_rfl

theorem clone_row (w : World) (g n c : Nat) (l : List UInt8) (hl : l.length = n) (h0 : 0 < n) (hn : n ≤ 1048576) (ho : Own w g l) :
    Calls Try.prog 39 #[.slice (some ⟨g, 0, none⟩) n c] w fun e w' => ∃ g' c', e = .returned (.slice (some ⟨g', 0, none⟩) n c') ∧ n ≤ c' ∧ w.heap.size ≤ g' ∧ g' < w'.heap.size ∧ Own w' g' l ∧ Below w.heap.size w w' := by
  obtain ⟨i, hi, hz, h1, h2⟩ := row5
  have hgl := ho.lt (by omega)
  have own0 := World.ownsRow_made (base := w.heap.size) (e := 5) (size := 1) w #[] 0 (Nat.le_refl _) (by omega) (by simp)
  have hnews : ∀ j u, (u8s l)[j]? = some u → (w.alloc (.cells #[] 5)).cell? ((⟨g, 0, none⟩ : Addr).add j) = some u := fun j u hu => by
    have hj : j < (u8s l).length := (List.getElem?_eq_some_iff.1 hu).1
    rw [u8s_length] at hj
    rw [show (⟨g, 0, none⟩ : Addr).add j = ⟨g, j, none⟩ by unfold Addr.add; split <;> simp_all]
    rw [World.cell?_alloc_lt w _ ⟨g, j, none⟩ hgl, ho.1 j hj]
    simp [u8s, hj] at hu
    rw [hu]
  have hone : ∀ u ∈ u8s l, u.oneCell' = true := fun u hu => by
    unfold u8s at hu
    obtain ⟨b, _, rfl⟩ := List.mem_map.1 hu
    rfl
  have hll : (u8s l).length = n * 1 := by rw [u8s_length, hl, Nat.mul_one]
  have HI := Lib.hid (show _ ∧ _ ∧ _ ∧ _ from ⟨hi, hz, h1, h2⟩)
  have HN := Lib.hid hnews
  have H1 := Lib.hid hone
  have HLL := Lib.hid hll
  have HO0 := Lib.hid own0
  clear hi hz h1 h2 hnews hone hll own0 ho hl
  have hsn := slice_nil
  go_enter Try.func39, Try.ntmps39
  go_wp2_with (first | (at_builtin; refine wpList_append_lies _ rfl _ _ 32 rfl w.heap.size 5 i (.int .u8 0) 1 1 Try.underlying32 HI.out.1 HI.out.2.1 HI.out.2.2.1 HI.out.2.2.2 rfl (by decide) (.slice (some ⟨w.heap.size, 0, none⟩) 0 0) 0 [] rfl HO0.out ⟨g, 0, none⟩ n c (u8s l) rfl HLL.out HN.out H1.out h0 (by unfold maxLen; omega) (by omega) (by simp) _ rfl ?_; intro g' c' w2 hrow hgr hat hlt) | go_in)
  go_ret
  simp only [Nat.zero_add, List.nil_append] at hrow
  have z1 : (w.alloc (.cells #[] 5)).heap.size = w.heap.size + 1 := by simp
  have hk : Kept w w2 (fun b => b = w.heap.size) := ((Kept.refl w (fun b => b = w.heap.size)).alloc (.cells #[] 5)).grown hgr (fun b e _ => by
    simp [Value.ownBlock] at e
    exact e.symm)
  obtain ⟨o2, hc2⟩ := own_of_row hrow
  refine ⟨g', c', rfl, hc2, ?_, hlt, o2, hk.below (Nat.le_refl _) (fun i e => by omega)⟩
  rcases hat with h | h
  · simp [Value.ownBlock] at h; omega
  · omega
end Go.Proofs.Ytdchnncoddjngaa
