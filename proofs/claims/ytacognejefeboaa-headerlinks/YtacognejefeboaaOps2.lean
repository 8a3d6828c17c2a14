/-
  'each' with Zero's and with Store's closure; then Load, Store, Zero and Copy.
-/
import Derived.Test.YtacognejefeboaaOps
namespace Go.Proofs.Ytacognejefeboaa
open Go.ChangeShapes Go.WideShapes Go.ChangeAt Go.RowKit
set_option linter.unusedVariables false
set_option maxRecDepth 20000

theorem each_zero {w : World} {s m P T : Nat} {G : Pgs} (h : IsSp w s m P T G) (bs a n : Nat) (hbs : w.cell? ⟨bs, 0, none⟩ = some (.pointer (some ⟨s, 0, none⟩)))
    (hin : a + n ≤ P * 4096) (n4 : ¬ Mine s m G bs) :
    Calls Try.prog 42 #[.int .u64 a, .int .u64 n, .func (.func 55) #[] #[.pointer (some ⟨bs, 0, none⟩)]] w
      fun e w' => e = .returned (.tuple #[]) ∧ ∃ G', IsSp w' s m P T G' ∧ bytesOf G' = M.zr (bytesOf G) a n ∧ (∀ b, Mine s m G' b ↔ Mine s m G b) ∧ Kept w w' (Mine s m G) := by
  have ht := h.top
  refine (each_any 55 _ a n (by omega) call37 (fun d wr => d ≤ n ∧ Kept w wr (Mine s m G) ∧ ∃ G', IsSp wr s m P T G' ∧ bytesOf G' = M.zr (bytesOf G) a d ∧ ∀ b, Mine s m G' b ↔ Mine s m G b) w ?_ ?_ ?_).mono ?_
  · exact ⟨Nat.zero_le _, Kept.refl _ _, G, h, (M.zr_zero _ _).symm, fun _ => Iff.rfl⟩
  · rintro d wr wr' ⟨hd, hk, G', h1, h2, h3⟩ hb
    exact ⟨hd, hk.trans (Kept.of_below hb _) (fun _ _ h => h), G', h1.kept (Kept.of_below hb (fun _ => False)) (fun _ _ h => h), h2, h3⟩
  · rintro d wr hd ⟨hdn, hk, G', h1, h2, h3⟩ c hc
    have := zero1_any h1 bs (hk.cell_some hbs n4) ((a + d) / 4096) ((a + d) % 4096) c (by omega) (by omega) (by omega)
    refine Calls.mono this ?_
    rintro e w' ⟨rfl, G2, g1, g2, g3, g4⟩
    refine ⟨rfl, by omega, hk.trans g4 (fun i _ hi => (h3 i).1 hi), G2, g1, ?_, fun b => (g3 b).trans (h3 b)⟩
    have e1 : (a + d) / 4096 * 4096 + (a + d) % 4096 = a + d := by omega
    rw [g2, h2, e1, M.zr_step]
  · rintro e w' ⟨rfl, _, hk, G', h1, h2, h3⟩
    exact ⟨rfl, G', h1, h2, h3, hk⟩

theorem each_store {w : World} {s m P T : Nat} {G : Pgs} (h : IsSp w s m P T G) (bs br a : Nat) (xs : List UInt8) (A : Option Addr) (rc : Nat) (hbs : w.cell? ⟨bs, 0, none⟩ = some (.pointer (some ⟨s, 0, none⟩)))
    (hbr : w.cell? ⟨br, 0, none⟩ = some (.slice A xs.length rc)) (hfr : w.frozen? ⟨br, 0, none⟩ = false) (hx : Lies w A (u8s xs)) (hrc : xs.length ≤ rc)
    (hin : a + xs.length ≤ P * 4096) (n2 : bs ≠ br) (n3 : ¬ Mine s m G bs) (n5 : ¬ Mine s m G br) (n6 : 0 < xs.length → ∀ ad, A = some ad → ¬ Mine s m G ad.block ∧ ad.block ≠ br ∧ ad.block < w.heap.size) :
    Calls Try.prog 42 #[.int .u64 a, .int .u64 (xs.length : Nat), .func (.func 43) #[] #[.pointer (some ⟨bs, 0, none⟩), .pointer (some ⟨br, 0, none⟩)]] w
      fun e w' => e = .returned (.tuple #[]) ∧ ∃ G', IsSp w' s m P T G' ∧ bytesOf G' = M.wr (bytesOf G) a xs ∧ (∀ b, Mine s m G' b → Mine s m G b ∨ w.heap.size ≤ b) ∧ Kept w w' (fun b => Mine s m G b ∨ b = br) := by
  have ht := h.top
  have hbrl := lt_of_cell hbr
  have hbsl := lt_of_cell hbs
  obtain ⟨n, hn⟩ : ∃ n, n = xs.length := ⟨_, rfl⟩
  rw [← hn] at hbr hrc hin ⊢
  refine (each_any 43 _ a n (by omega) call36 (fun d wr => d ≤ n ∧ Kept w wr (fun b => Mine s m G b ∨ b = br) ∧ (∃ G', IsSp wr s m P T G' ∧ bytesOf G' = M.wr (bytesOf G) a (xs.take d) ∧ ∀ b, Mine s m G' b → Mine s m G b ∨ w.heap.size ≤ b) ∧
    ∃ A', wr.cell? ⟨br, 0, none⟩ = some (.slice A' (n - d) (rc - d)) ∧ wr.frozen? ⟨br, 0, none⟩ = false ∧ Lies wr A' (u8s (xs.drop d)) ∧ (d < n → ∀ ad, A' = some ad → ¬ Mine s m G ad.block ∧ ad.block ≠ br ∧ ad.block < w.heap.size)) w ?_ ?_ ?_).mono ?_
  · exact ⟨Nat.zero_le _, Kept.refl _ _, ⟨G, h, by rw [List.take_zero, M.wr_nil], fun _ h => Or.inl h⟩, A, hbr, hfr, hx, fun h => n6 (by omega)⟩
  · rintro d wr wr' ⟨hd, hk, ⟨G', h1, h2, h3⟩, A', hA, hf, hl, hA'⟩ hb
    have hlt := lt_of_cell hA
    exact ⟨hd, hk.trans (Kept.of_below hb _) (fun _ _ h => h), ⟨G', h1.kept (Kept.of_below hb (fun _ => False)) (fun _ _ h => h), h2, h3⟩, A', (hb.cell (p := ⟨br, 0, none⟩) hlt).trans hA, (World.frozen?_of_block (hb.block br hlt)).trans hf, hl.below hb, hA'⟩
  · rintro d wr hd ⟨hdn, hk, ⟨G', h1, h2, h3⟩, A', hA, hf, hl, hA'⟩ c hc
    have hno : ∀ b, b < w.heap.size → ¬ Mine s m G b → ¬ Mine s m G' b := fun b hb h e => (h3 b e).elim h (fun h => by omega)
    have := store1_any h1 bs br (hk.cell_some hbs (fun e => e.elim n3 n2)) A' (xs.drop d) (n - d) (rc - d) (by simp [hn]) (by omega) hA hf hl ((a + d) / 4096) ((a + d) % 4096) c (by omega) (by omega) (by omega) (by omega) n2
      (hno bs hbsl n3) (hno br hbrl n5) (fun ad e => ⟨hno _ (hA' hd ad e).2.2 (hA' hd ad e).1, (hA' hd ad e).2.1⟩)
    refine Calls.mono this ?_
    rintro e w' ⟨rfl, G2, A2, g1, g2, g3, g4, g5, g6, g7, g8⟩
    refine ⟨rfl, by omega, hk.trans g8 (fun i hi e => ?_), ⟨G2, g1, ?_, fun b hb => ?_⟩, A2, by rw [g4]; simp only [Option.some.injEq, Value.slice.injEq, true_and]; omega, g5, by rw [List.drop_drop] at g6; exact g6, fun _ ad e => ?_⟩
    · rcases e with e | e
      · rcases h3 i e with e | e
        · exact Or.inl e
        · omega
      · exact Or.inr e
    · have e1 : (a + d) / 4096 * 4096 + (a + d) % 4096 = a + d := by omega
      rw [g2, h2, e1, M.wr_step _ _ _ _ _ (by omega)]
    · rcases g3 b hb with e | e
      · exact h3 b e
      · exact Or.inr (Nat.le_trans hk.size e)
    · obtain ⟨a', e1, e2⟩ := g7 ad e
      rw [e2]
      exact hA' hd a' e1
  · rintro e w' ⟨rfl, _, hk, ⟨G', h1, h2, h3⟩, _⟩
    rw [List.take_of_length_le (by omega)] at h2
    exact ⟨rfl, G', h1, h2, h3, hk⟩

theorem load_world (w : World) (s n : Nat) :
    let W := ((w.alloc (.cells #[.pointer (some ⟨s, 0, none⟩)] 25)).alloc (.cells (madeCells #[.int .u8 0] n) 5)).alloc (.cells #[.slice (some ⟨w.heap.size + 1, 0, none⟩) n n] 34)
    W.cell? ⟨w.heap.size, 0, none⟩ = some (.pointer (some ⟨s, 0, none⟩)) ∧ W.cell? ⟨w.heap.size + 1 + 1, 0, none⟩ = some (.slice (some ⟨w.heap.size + 1, 0, none⟩) n n) ∧ W.frozen? ⟨w.heap.size + 1 + 1, 0, none⟩ = false ∧
      Own W (w.heap.size + 1) (List.replicate n 0) ∧ W.heap.size = w.heap.size + 3 ∧ Kept w W (fun _ => False) := by
  intro W
  have z1 : (w.alloc (.cells #[.pointer (some ⟨s, 0, none⟩)] 25)).heap.size = w.heap.size + 1 := by simp
  have z2 : ((w.alloc (.cells #[.pointer (some ⟨s, 0, none⟩)] 25)).alloc (.cells (madeCells #[.int .u8 0] n) 5)).heap.size = w.heap.size + 2 := by simp
  have z3 : W.heap.size = w.heap.size + 3 := by show (World.alloc _ _).heap.size = _; simp
  refine ⟨?_, ?_, ?_, ?_, z3, (((Kept.refl w (fun _ => False)).alloc _).alloc _).alloc _⟩
  · show (World.alloc _ _).cell? _ = _
    rw [World.cell?_alloc_lt _ _ ⟨w.heap.size, 0, none⟩ (by rw [z2]; show w.heap.size < _; omega), World.cell?_alloc_lt _ _ ⟨w.heap.size, 0, none⟩ (by rw [z1]; show w.heap.size < _; omega), World.cell?_alloc_mark]
    rfl
  · have := World.cell?_alloc_mark ((w.alloc (.cells #[.pointer (some ⟨s, 0, none⟩)] 25)).alloc (.cells (madeCells #[.int .u8 0] n) 5)) #[.slice (some ⟨w.heap.size + 1, 0, none⟩) n n] 34 (0, 0) 0
    rw [z2] at this
    exact this
  · have := World.frozen?_alloc_mark ((w.alloc (.cells #[.pointer (some ⟨s, 0, none⟩)] 25)).alloc (.cells (madeCells #[.int .u8 0] n) 5)) #[.slice (some ⟨w.heap.size + 1, 0, none⟩) n n] 34 0
    rw [z2] at this
    rw [show w.heap.size + 1 + 1 = w.heap.size + 2 from rfl]
    rw [this]
    simp
  · have := own_made n (w.alloc (.cells #[.pointer (some ⟨s, 0, none⟩)] 25))
    rw [z1] at this
    exact this.alloc (by rw [z2]; omega) _

/-! Load. -/
theorem load_ok {w : World} {s P T : Nat} {f : Nat → UInt8} {O : Nat → Prop} (h : Sp w s P T f O) (a n : Nat) (ha : a < 18446744073709551616) (hin : M.inB a n (P * 4096) = true) (hn : n ≤ 1048576) (hT : T + M.touched a n < 9223372036854775808) :
    Calls Try.prog 24 #[.pointer (some ⟨s, 0, none⟩), .int .u64 a, .int .u64 n] w fun e w' => ∃ g, e = .returned (.tuple #[.slice (some ⟨g, 0, none⟩) n n, .int .i64 0]) ∧
      w.heap.size ≤ g ∧ g < w'.heap.size ∧ Own w' g (M.rd f a n) ∧ Sp w' s P (T + M.touched a n) f O ∧ Kept w w' O := by
  have hP := h.top
  have hi := inB_in hin
  have HS := Lib.hid h
  clear h
  have mk := makeU n (by omega)
  go_enter Try.func24, Try.ntmps24
  go_wp2_with fail
  refine (swithin_any (HS.out.alloc _) a n ha (by omega)).mono ?_
  rintro e w' ⟨rfl, rfl⟩
  go_wp2_with fail
  obtain ⟨c0, c1, c2, c3, c4, c5⟩ := load_world w s n
  generalize hW : ((w.alloc (.cells #[.pointer (some ⟨s, 0, none⟩)] 25)).alloc (.cells (madeCells #[.int .u8 0] n) 5)).alloc (.cells #[.slice (some ⟨w.heap.size + 1, 0, none⟩) n n] 34) = W at *
  clear hW mk
  generalize hbr : w.heap.size + 1 + 1 = br at c1 c2 ⊢
  generalize hgb : w.heap.size + 1 = gb at c1 c3 ⊢
  generalize hbs : w.heap.size = bs at c0 ⊢
  have HB := Lib.hid (show bs = w.heap.size ∧ gb = w.heap.size + 1 ∧ br = w.heap.size + 2 from ⟨hbs.symm, by omega, by omega⟩)
  clear hbs hgb hbr
  have S3 := HS.out.kept c5 (fun _ _ h => h)
  have hOl := fun b => HS.out.lt (b := b)
  obtain ⟨m, G, h1, h2, h3, h4⟩ := S3
  have hm : ∀ b, w.heap.size ≤ b → ¬ Mine s m G b := fun b hb hM => by have := hOl b (h3 b hM); omega
  refine (each_load h1 bs br gb a n c0 c1 c2 c3 (by have := HB.out; omega) hi (by have := HB.out; omega) (by have := HB.out; omega) (by have := HB.out; omega) (hm _ (by have := HB.out; omega)) (hm _ (by have := HB.out; omega))).mono ?_
  rintro e w4 ⟨rfl, o4, k4⟩
  have c0' := k4.cell_some c0 (by have := HB.out; simp; omega)
  have K4 := Lib.hid k4
  have O4 := Lib.hid o4
  have S4 : Sp w4 s P T f O := ⟨m, G, h1.kept k4 (fun b hb e => by have hl := hOl b (h3 b hb); have := HB.out; omega), h2, h3, fun b hb => Nat.lt_of_lt_of_le (h4 b hb) k4.size⟩
  have C5 := Lib.hid c5
  have H2 := Lib.hid h2
  have Z4 := Lib.hid c4
  clear k4 o4 c5 c0 c1 c2 c3 h1 h2 c4 HS h3 h4 hm
  go_wp2_with fail
  refine (stouch_any S4 a n (by omega) hT).mono ?_
  rintro e w5 ⟨rfl, S5, k5⟩
  have H5 := Lib.hid (show Sp w5 s P (T + M.touched a n) f O ∧ Kept w4 w5 O from ⟨S5, k5⟩)
  clear S5 k5 S4
  go_wp2
  go_ret2
  have hb := HB.out
  have z4 := Z4.out
  have q4 := K4.out.size
  have q5 := H5.out.2.size
  refine ⟨gb, rfl, by omega, by omega, ?_, H5.out.1, ?_⟩
  · have := O4.out
    rw [H2.out] at this
    exact H5.out.2.own this (by omega) (fun e => by have := hOl gb e; omega)
  · refine ((C5.out.mono (O' := O) (fun _ _ h => h.elim)).trans K4.out (fun i hi e => ?_)).trans H5.out.2 (fun _ _ h => h)
    omega
end Go.Proofs.Ytacognejefeboaa
