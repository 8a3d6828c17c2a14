/-
  The document's answers for layer 3: some bytes; a log that grows.
-/
import Derived.Test.YtacognejefeboaaRef2
namespace Go.Proofs.Ytacognejefeboaa
open Go.ChangeShapes Go.WideShapes Go.ChangeAt Go.RowKit
set_option linter.unusedVariables false
set_option maxRecDepth 20000

set_option maxHeartbeats 1000000 in
theorem rbytes_any (w : World) (P : Nat) (A : Option Addr) (z c T : Nat) (l : List M.Ent) (hz : z = l.length) (hl : LogAt w A l) (hok : ∀ e ∈ l, EntOk e) (hb : z ≤ 1000) (a n : Nat) (ha : a + n ≤ 4294967296) (hn : n ≤ 1048576) :
    Calls Try.prog 51 #[refV P A z c T, .int .u64 a, .int .u64 n] w fun e w' => e = .returned (.string ⟨(M.rd (M.byteAt l) a n).toArray⟩) ∧ Below w.heap.size w w' := by
  have HL := Lib.hid (show z = l.length ∧ LogAt w A l ∧ ∀ e ∈ l, EntOk e from ⟨hz, hl, hok⟩)
  clear hz hl hok
  have mk := make22 n (n : Int) rfl (by omega)
  go_enter Try.func51, Try.ntmps51
  go_wp2_with fail
  have k1 := ((Kept.refl w (fun _ => False)).alloc (.cells #[.int .i64 (P : Int), .slice A z c, .int .i64 (T : Int)] 29)).alloc (.cells (madeCells #[.int .u8 0] n) 5)
  have o1 := own_made n (w.alloc (.cells #[.int .i64 (P : Int), .slice A z c, .int .i64 (T : Int)] 29))
  have z1 : (w.alloc (.cells #[.int .i64 (P : Int), .slice A z c, .int .i64 (T : Int)] 29)).heap.size = w.heap.size + 1 := by simp
  have z2 : ((w.alloc (.cells #[.int .i64 (P : Int), .slice A z c, .int .i64 (T : Int)] 29)).alloc (.cells (madeCells #[.int .u8 0] n) 5)).heap.size = w.heap.size + 2 := by simp
  have cs : ∀ j, ((w.alloc (.cells #[.int .i64 (P : Int), .slice A z c, .int .i64 (T : Int)] 29)).alloc (.cells (madeCells #[.int .u8 0] n) 5)).cell? ⟨w.heap.size, j, none⟩ = (#[.int .i64 (P : Int), .slice A z c, .int .i64 (T : Int)] : Array Value)[j]? := fun j => by
    rw [World.cell?_alloc_lt _ _ ⟨w.heap.size, j, none⟩ (by rw [z1]; show w.heap.size < _; omega), World.cell?_alloc_mark]
  have c0 := cs 0
  have c1 := cs 1
  have c2 := cs 2
  rw [z1] at o1
  clear cs z1 mk
  generalize hw1 : (w.alloc (.cells #[.int .i64 (P : Int), .slice A z c, .int .i64 (T : Int)] 29)).alloc (.cells (madeCells #[.int .u8 0] n) 5) = w1 at *
  clear hw1
  generalize hg : w.heap.size + 1 = g at o1 ⊢
  generalize hs : w.heap.size = sb at c0 c1 c2 ⊢
  have HB := Lib.hid (show sb = w.heap.size ∧ g = w.heap.size + 1 ∧ w1.heap.size = w.heap.size + 2 from ⟨hs.symm, hg.symm, z2⟩)
  have K1 := Lib.hid k1
  have O1 := Lib.hid o1
  clear hs hg z2 k1 o1
  go_loopw [8] (fun i wr => ∃ k : Nat, k ≤ n ∧ i = .int .i64 (k : Int) ∧ Own wr g (M.rd (M.byteAt l) a k ++ List.replicate (n - k) 0) ∧ Kept w1 wr (fun b => b = g)) (fun i _ => n - (intOf i).toNat)
  case atStart => exact ⟨0, by omega, rfl, by rw [M.rd_zero]; exact O1.out, Kept.refl _ _⟩
  case round =>
    obtain ⟨k, hk, rfl, ho, hkp⟩ := hrel
    have hgs : ¬ (sb = g) := by have := HB.out; omega
    have d0 := hkp.cell_some (p := ⟨sb, 0, none⟩) (c0.trans rfl) hgs
    have d1 := hkp.cell_some (p := ⟨sb, 1, none⟩) (c1.trans rfl) hgs
    have d2 := hkp.cell_some (p := ⟨sb, 2, none⟩) (c2.trans rfl) hgs
    have HO := Lib.hid ho
    have HK := Lib.hid hkp
    have bw : Below w.heap.size w wr := (K1.out.below (Nat.le_refl _) (fun _ h => h.elim)).trans (hkp.below (by have := HB.out; omega) (fun i e => by have := HB.out; omega))
    have BW := Lib.hid bw
    have hll : LogAt wr A l := Lies.below HL.out.2.1 bw
    have HLL := Lib.hid hll
    have hsl : sb < wr.heap.size := lt_of_cell d0
    clear ho hkp bw hll
    by_cases hlt : k < n
    · obtain ⟨x, hx⟩ : ∃ x : Nat, (a : Int) + (k : Int) = (x : Int) := ⟨a + k, by omega⟩
      have HX := Lib.hid (show x = a + k by omega)
      have hx32 : x < 4294967296 := by omega
      go_wp2_with fail
      refine (rbyte_any wr P A z c T l HL.out.1 HLL.out HL.out.2.2 hb x (by omega)).mono ?_
      rintro e w3 ⟨rfl, b3⟩
      have hgl : g < wr.heap.size := HO.out.lt (by simp [M.rd_length]; omega)
      have o3 := HO.out.below hgl b3
      have kl : k < (M.rd (M.byteAt l) a k ++ List.replicate (n - k) 0).length := by simp [M.rd_length]; omega
      obtain ⟨v0, gc⟩ : ∃ v0, w3.cell? ⟨g, k, none⟩ = some (.int .u8 v0) := ⟨_, o3.1 k kl⟩
      have gf := o3.2 k kl
      have O3 := Lib.hid (o3.set k kl (M.byteAt l x))
      have K3 := Lib.hid ((HK.out.trans (Kept.of_below b3 (fun b => b = g)) (fun _ _ h => h)).setCell (p := ⟨g, k, none⟩) (fun _ => rfl) (.int .u8 ((M.byteAt l x).toNat : Int)))
      have KL := Lib.hid kl
      clear o3 b3 kl
      go_wp2_with fail
      go_roundw
      case rel =>
        refine ⟨k + 1, by omega, by go_num, ?_, K3.out⟩
        have := O3.out
        have e : (M.rd (M.byteAt l) a k ++ List.replicate (n - k) 0).set k (M.byteAt l x) = M.rd (M.byteAt l) a (k + 1) ++ List.replicate (n - (k + 1)) 0 := by
          rw [M.rd_add, HX.out, List.set_append_right _ _ (by rw [M.rd_length]; exact Nat.le_refl _), M.rd_length, Nat.sub_self, List.append_assoc]
          congr 1
          obtain ⟨q, hq⟩ : ∃ q, n - k = q + 1 := ⟨n - k - 1, by omega⟩
          rw [hq, show n - (k + 1) = q by omega]
          rfl
        rw [e] at this
        exact this
      case measure => simp [intOf]; omega
    · obtain rfl : k = n := by omega
      have q := fun W (hW : W = wr) => conv_at W (some ⟨g, 0, none⟩) k (M.rd (M.byteAt l) a k) k (M.rd_length _ _ _).symm (by
        have := HO.out
        rw [Nat.sub_self, List.replicate_zero, List.append_nil] at this
        rw [hW]
        exact this.lies)
      have q := q wr rfl
      go_wp2
      go_ret
      exact ⟨rfl, BW.out⟩
end Go.Proofs.Ytacognejefeboaa
