/-
  What Store's closure does to one page's bytes.
-/
import Derived.Test.YtacognejefeboaaZr
namespace Go.Proofs.Ytacognejefeboaa
open Go.ChangeShapes Go.WideShapes Go.ChangeAt Go.RowKit
set_option linter.unusedVariables false
set_option maxRecDepth 20000

/-- What one page's store leaves. -/
def St1 (w w' : World) (s m P T : Nat) (G : Pgs) (br : Nat) (A : Option Addr) (xs : List UInt8) (r rc a c : Nat) : Prop :=
  ∃ G' A', IsSp w' s m P T G' ∧ bytesOf G' = M.wr (bytesOf G) a (xs.take c) ∧ (∀ b, Mine s m G' b → Mine s m G b ∨ w.heap.size ≤ b) ∧
    w'.cell? ⟨br, 0, none⟩ = some (.slice A' (r - c) (rc - c)) ∧ w'.frozen? ⟨br, 0, none⟩ = false ∧ Lies w' A' (u8s (xs.drop c)) ∧ (∀ a, A' = some a → ∃ a', A = some a' ∧ a.block = a'.block) ∧ Kept w w' (fun b => Mine s m G b ∨ b = br)
theorem bytesOf_lay (G : Pgs) (k g : Nat) (h : G k = none) : bytesOf (setG G k (g, List.replicate 4096 0)) = bytesOf G := by
  have hs : ∀ l : List UInt8, M.splice l 0 [] = l := fun l => by simp [M.splice]
  have := bytesOf_setG G k 0 g (List.replicate 4096 0) [] (List.length_replicate ..) (by simp) (Or.inr ⟨h, rfl⟩)
  rw [M.wr_nil, hs] at this
  exact this

theorem store1_any {w : World} {s m P T : Nat} {G : Pgs} (h : IsSp w s m P T G) (bs br : Nat) (hbs : w.cell? ⟨bs, 0, none⟩ = some (.pointer (some ⟨s, 0, none⟩)))
    (A : Option Addr) (xs : List UInt8) (r rc : Nat) (hr : xs.length = r) (hrc : r ≤ rc) (hbr : w.cell? ⟨br, 0, none⟩ = some (.slice A r rc)) (hfr : w.frozen? ⟨br, 0, none⟩ = false)
    (hx : Lies w A (u8s xs)) (k f c : Nat) (hk : k < P) (hc : 0 < c) (hcr : c ≤ r) (hf : f + c ≤ 4096) (n2 : bs ≠ br) (n3 : ¬ Mine s m G bs) (n5 : ¬ Mine s m G br) (n6 : ∀ ad, A = some ad → ¬ Mine s m G ad.block ∧ ad.block ≠ br) :
    Calls Try.prog 43 #[keyV k, .int .u64 (f : Int), .int .u64 ((f + c : Nat) : Int), .pointer (some ⟨bs, 0, none⟩), .pointer (some ⟨br, 0, none⟩)] w
      fun e w' => e = .returned (.tuple #[]) ∧ St1 w w' s m P T G br A xs r rc (k * 4096 + f) c := by
  have hkey : ∃ ka kb : Int, keyV k = .agg #[.int .i64 ka, .int .i64 kb] := ⟨_, _, rfl⟩
  obtain ⟨ka, kb, hkv⟩ := hkey
  rw [hkv]
  obtain ⟨t, ht⟩ : ∃ t, t = f + c := ⟨_, rfl⟩
  rw [← ht]
  have HT := Lib.hid ht; clear ht
  have hslt := h.slt
  have hmlt := h.mlt
  have hbsl := lt_of_cell hbs
  have hbrl := lt_of_cell hbr
  obtain ⟨A', hcut, hdrop, hadd, hblk⟩ := cut_u A r rc c hcr hrc
  have hsub : IntKind.u64.wrap ((t : Int) - f) = (c : Int) := by have := HT.out; rw [wrapU]; omega
  have HC := Lib.hid (show _ ∧ _ from ⟨hdrop, hblk⟩)
  have HN := Lib.hid (show bs ≠ br ∧ ¬ Mine s m G bs ∧ ¬ Mine s m G br ∧ ∀ ad, A = some ad → ¬ Mine s m G ad.block ∧ ad.block ≠ br from ⟨n2, n3, n5, n6⟩)
  have HR := Lib.hid (show xs.length = r ∧ c ≤ r ∧ r ≤ rc from ⟨hr, hcr, hrc⟩)
  clear hadd hdrop hblk n2 n3 n5 n6 hr hcr hrc
  go_enter Try.func43, Try.ntmps43
  go_wp2_with fail
  have hk0 := (World.cell?_alloc_mark w #[.int .i64 ka, .int .i64 kb] 90 (0, 0) 0)
  have hk1 := (World.cell?_alloc_mark w #[.int .i64 ka, .int .i64 kb] 90 (0, 0) 1)
  have K1 := Lib.hid ((Kept.refl w (fun b => Mine s m G b ∨ b = br)).alloc (.cells #[.int .i64 ka, .int .i64 kb] 90))
  have h1 := h.alloc (.cells #[.int .i64 ka, .int .i64 kb] 90)
  have x1 := hx.alloc (.cells #[.int .i64 ka, .int .i64 kb] 90)
  have b1 := (World.cell?_alloc_lt w (.cells #[.int .i64 ka, .int .i64 kb] 90) ⟨bs, 0, none⟩ hbsl).trans hbs
  have b2 := (World.cell?_alloc_lt w (.cells #[.int .i64 ka, .int .i64 kb] 90) ⟨br, 0, none⟩ hbrl).trans hbr
  have b3 := (World.frozen?_of_block (w := w) (w' := w.alloc (.cells #[.int .i64 ka, .int .i64 kb] 90)) (a := ⟨br, 0, none⟩) (Below.heap_alloc w _ br hbrl)).trans hfr
  have hsz : (w.alloc (.cells #[.int .i64 ka, .int .i64 kb] 90)).heap.size = w.heap.size + 1 := by simp
  generalize hw1 : w.alloc (.cells #[.int .i64 ka, .int .i64 kb] 90) = w1 at hk0 hk1 K1 h1 x1 b1 b2 b3 hsz ⊢
  clear hw1
  generalize hkb : w.heap.size = kb0 at *
  have c1 := h1.c1
  have H1 := Lib.hid h1
  have X1 := Lib.hid x1
  have SZ := Lib.hid (show w.heap.size = kb0 ∧ w1.heap.size = kb0 + 1 from ⟨hkb, hsz⟩)
  clear h hbs h1 x1 hx hbr hfr hkb hsz
  rcases hG : G k with _ | ⟨g, l⟩
  · have hl := fun q => (H1.out.drewN q).look_no k hk hG
    rw [hkv] at hl
    have HG := Lib.hid hG
    have HK := Lib.hid hkv
    clear hG hkv
    go_quiet (fail)
    clear hl
    go_wp2_with fail
    have H2 := Lib.hid (H1.out.drewN nq).drew
    have X2 : Lies (w1.drewN nq).drew A (u8s xs) := X1.out
    have K2 := Lib.hid (K1.out.drewN nq).drew
    have z2 : (w1.drewN nq).heap.size = kb0 + 1 := SZ.out.2
    have b1q : (w1.drewN nq).cell? ⟨bs, 0, none⟩ = some (.pointer (some ⟨s, 0, none⟩)) := b1
    have b2q : (w1.drewN nq).cell? ⟨br, 0, none⟩ = some (.slice A r rc) := b2
    have b3q : (w1.drewN nq).frozen? ⟨br, 0, none⟩ = false := b3
    have c1q : (w1.drewN nq).cell? ⟨s, 1, none⟩ = some (.map (some m)) := c1
    have k0q : (w1.drewN nq).cell? ⟨kb0, 0, none⟩ = some (.int .i64 ka) := hk0
    have k1q : (w1.drewN nq).cell? ⟨kb0, 1, none⟩ = some (.int .i64 kb) := hk1
    generalize hw2 : w1.drewN nq = w2 at *
    clear hw2 hk0 hk1 b1 b2 b3 c1
    obtain ⟨ob, hob⟩ : ∃ ob, ob = Obj.cells (madeCells #[.int .u8 0] 4096) 5 := ⟨_, rfl⟩
    have hmk : ∀ W, (Instr.makeSlice 34 (.int .i64 4096) (.int .i64 4096)).run Try.prog W = .ok (.slice (some ⟨W.heap.size, 0, none⟩) 4096 4096) (W.alloc ob) := fun W => by
      rw [hob]
      exact make22 4096 4096 rfl (by omega) W
    have ho2 : Own (w2.drew.alloc ob) (kb0 + 1) (List.replicate 4096 0) := by
      rw [hob, ← z2]
      exact own_made 4096 w2.drew
    have hnm : ¬ Mine s m G (kb0 + 1) := fun hb => by
      have h1 := H2.out.mine_lt hb
      have h2 : w2.drew.heap.size = w2.heap.size := rfl
      omega
    have hsz3 : (w2.drew.alloc ob).heap.size = kb0 + 2 := by
      have h2 : w2.drew.heap.size = w2.heap.size := rfl
      simp; omega
    obtain ⟨w5, hup, h5, hg5⟩ := (H2.out.alloc ob).lay k hk HG.out (kb0 + 1) 4096 (Nat.le_refl _) (List.replicate 4096 0) (List.length_replicate ..) ho2 (by omega) hnm
    rw [HK.out] at hup
    have HK5 := Lib.hid h5
    have G5 := Lib.hid hg5
    have O2 := Lib.hid (show ob = _ ∧ _ ∧ _ from ⟨hob, hnm, hsz3⟩)
    have XX := Lib.hid X2
    clear h5 hg5 hob ho2 hnm hsz3 X2
    have hup' : (Instr.mapUpdate 65 (.map (some m)) (.agg #[.int .i64 ka, .int .i64 kb]) (.slice (some ⟨kb0 + 1, 0, none⟩) 4096 4096)).run Try.prog (w2.alloc ob).drew = .ok () w5 := hup
    clear hup
    go_region
    have K25 : Kept w2.drew w5 (fun b => b = m) := ((Kept.refl w2.drew (fun b => b = m)).alloc ob).grown G5.out (fun b e _ => by injection e with e; exact e.symm)
    have hbrm : ¬ br = m := fun e => HN.out.2.2.1 (Or.inr (Or.inl e))
    have hbsm : ¬ bs = m := fun e => HN.out.2.1 (Or.inr (Or.inl e))
    have hsm : ¬ s = m := fun e => H2.out.ne e.symm
    have hkm : ¬ kb0 = m := fun e => by omega
    have b1y : w5.cell? ⟨bs, 0, none⟩ = some (.pointer (some ⟨s, 0, none⟩)) := K25.cell_some (p := ⟨bs, 0, none⟩) b1q hbsm
    have b2y : w5.cell? ⟨br, 0, none⟩ = some (.slice A r rc) := K25.cell_some (p := ⟨br, 0, none⟩) b2q hbrm
    have b3y : w5.frozen? ⟨br, 0, none⟩ = false := (K25.frozen (p := ⟨br, 0, none⟩) (lt_of_cell (w := w2.drew) (p := ⟨br, 0, none⟩) b2q) hbrm).trans b3q
    have k0y : w5.cell? ⟨kb0, 0, none⟩ = some (.int .i64 ka) := K25.cell_some (p := ⟨kb0, 0, none⟩) k0q hkm
    have k1y : w5.cell? ⟨kb0, 1, none⟩ = some (.int .i64 kb) := K25.cell_some (p := ⟨kb0, 1, none⟩) k1q hkm
    have hxl : ∀ ad, A = some ad → 0 < (u8s xs).length → ad.block < kb0 + 1 := fun ad e hn => by
      obtain ⟨ad', e', hc'⟩ := XX.out hn
      have h1 := lt_of_cell (hc' 0 hn)
      rw [block_of_add] at h1
      have h2 : w2.drew.heap.size = w2.heap.size := rfl
      rw [e'] at e
      injection e with e
      subst e
      omega
    have XY : Lies w5 A (u8s xs) := K25.lies XX.out (fun hn ad e em => (HN.out.2.2.2 ad e).1 (Or.inr (Or.inl em)))
    have XY := Lib.hid XY
    have KY := Lib.hid ((K2.out.alloc ob).grown G5.out (fun b e _ => by injection e with e; exact Or.inl (Or.inr (Or.inl e.symm))))
    obtain ⟨l, hl⟩ : ∃ l : List UInt8, l = List.replicate 4096 0 := ⟨_, rfl⟩
    obtain ⟨g, hg⟩ : ∃ g, g = kb0 + 1 := ⟨_, rfl⟩
    rw [← hl, ← hg] at HK5
    have HGY := Lib.hid (setG_same G k (g, l))
    have HY := HK5
    have HNY := Lib.hid (show g ≠ br ∧ (0 < (u8s xs).length → ∀ ad, A = some ad → ¬ ad.block = g) from ⟨by omega, fun hn ad e eg => by have := hxl ad e hn; omega⟩)
    have HGO := Lib.hid (show g < w.heap.size → Mine s m G g ∨ g = br from fun h => by have := SZ.out; omega)
    have HMY := Lib.hid (show ∀ b, Mine s m (setG G k (g, l)) b → Mine s m G b ∨ w.heap.size ≤ b from fun b hb => by
      rcases hb.of_setG with h | h
      · exact Or.inl h
      · right; have := SZ.out; omega)
    have HB := Lib.hid (show bytesOf (setG G k (g, l)) = bytesOf G by rw [hl]; exact bytesOf_lay G k g HG.out)
    generalize hG1 : setG G k (g, l) = G1 at HGY HY HMY HB
    clear hG1 hl hg HK5 hxl K25 hbrm hbsm hsm hkm hup' G5 O2 XX hmk z2 b1q b2q b3q c1q k0q k1q H2 K2 HG
    go_wp2_with fail
    obtain ⟨pc, hpc, hl⟩ := HY.out.look k g l HGY.out
    have HL := Lib.hid hl
    have hcp := fun W => cut_page W g pc f t hpc (by have := HT.out; omega) (by have := HT.out; omega)
    have htf : t - f = c := by have := HT.out; omega
    rw [htf] at hcp
    clear htf hl
    refine still_tail 10 (by kernel_rfl) (by kernel_rfl) (fun w3 hw3 => ?_)
    have b1' : w3.cell? ⟨bs, 0, none⟩ = some (.pointer (some ⟨s, 0, none⟩)) := by rw [hw3]; exact b1y
    have b2' : w3.cell? ⟨br, 0, none⟩ = some (.slice A r rc) := by rw [hw3]; exact b2y
    have b3' : w3.frozen? ⟨br, 0, none⟩ = false := by rw [hw3]; exact b3y
    have h3 : IsSp w3 s m P T G1 := by rw [hw3]; exact HY.out.drew
    have c1' := h3.c1
    have hk0' : w3.cell? ⟨kb0, 0, none⟩ = some (.int .i64 ka) := by rw [hw3]; exact k0y
    have hk1' : w3.cell? ⟨kb0, 1, none⟩ = some (.int .i64 kb) := by rw [hw3]; exact k1y
    have x3 : Lies w3 A (u8s xs) := by rw [hw3]; exact XY.out
    have hl3 := (HL.out w3 (by rw [hw3]; rfl)).2
    rw [HK.out] at hl3
    have hpl : (xs.take c).length = c := by have := HR.out; simp; omega
    have hll := (h3.page k g l HGY.out).2.2.1
    have hco := fun ty => copy_own w3 g f c (pc - f) l (h3.page k g l HGY.out).2.1 A r rc xs (xs.take c) (by have := HR.out; rw [hpl]; omega) (by rw [hpl]; omega) x3 (by rw [hpl]) (by rw [hpl]; exact hc) ty
    rw [hpl] at hco
    have K3 : Kept w w3 (fun b => Mine s m G b ∨ b = br) := by rw [hw3]; exact KY.out.drew
    have H4 := Lib.hid (h3.write k g l HGY.out f (xs.take c) (by rw [hpl]; exact hf))
    have K4 : Kept w3 (w3.setCells g f (u8s (xs.take c))) (fun b => b = g) := (Kept.refl _ (fun b => b = g)).setCells (g := g) (fun _ => rfl) _ _
    have X4 := Lib.hid (K4.lies x3 (fun hn ad e eg => HNY.out.2 hn ad e eg))
    have hb4 := K4.cell_some b2' (fun e => HNY.out.1 e.symm)
    have hf4 : (w3.setCells g f (u8s (xs.take c))).frozen? ⟨br, 0, none⟩ = false := (World.frozen?_setCells _ _ _ _ _).trans b3'
    have KB := Lib.hid (K3.setCells (g := g) HGO.out (u8s (xs.take c)) f)
    have HE := Lib.hid (show bytesOf (setG G1 k (g, M.splice l f (xs.take c))) = M.wr (bytesOf G) (k * 4096 + f) (xs.take c) from (bytesOf_setG G1 k f g l (xs.take c) hll (by rw [hpl]; exact hf) (Or.inl (by rw [HGY.out]; rfl))).trans (by rw [HB.out]))
    clear hpl hw3 x3 h3 K4 b1y b2y b3y k0y k1y b3' K3 hll
    simp only [List.take_succ_cons, List.take_zero, List.drop_succ_cons, List.drop_zero]
    repeat still_step
    refine wpStill_nil ?_
    generalize hw4 : w3.setCells g f (u8s (xs.take c)) = w4 at *
    clear hw4
    go_wp2_with fail
    go_end0
    have K5 : Kept w4 (w4.setCell ⟨br, 0, none⟩ (.slice A' (r - c) (rc - c))) (fun b => b = br) := (Kept.refl _ (fun b => b = br)).setCell (p := ⟨br, 0, none⟩) (fun _ => rfl) _
    have hm4 : ∀ b, Mine s m (setG G1 k (g, M.splice l f (xs.take c))) b → Mine s m G b ∨ w.heap.size ≤ b := fun b hb => HMY.out b ((Mine.setG_same HGY.out b).1 hb)
    refine ⟨rfl, show St1 .. from ?_⟩
    refine ⟨_, A', H4.out.kept K5 (fun b hb e => ?_), HE.out, hm4, World.cell?_setCell_same _ _ _ hb4, (World.frozen?_setCell _ _ _ _).trans hf4, ?_, HC.out.2, KB.out.setCell (p := ⟨br, 0, none⟩) (fun _ => Or.inr rfl) _⟩
    · have eb : b = br := e
      subst eb
      rcases hm4 b hb with h | h
      · exact HN.out.2.2.1 h
      · have := SZ.out; omega
    · have := HC.out.1 w4 (u8s xs) (by rw [u8s_length]; exact HR.out.1) X4.out
      rw [← u8s_drop] at this
      exact K5.lies this (fun hn ad e eb => by
        obtain ⟨a', e1, e2⟩ := HC.out.2 ad e
        have := (HN.out.2.2.2 a' e1).2
        have eb' : ad.block = br := eb
        omega)
  · have hpg := H1.out.page k g l hG
    obtain ⟨pc0, hpc0, hl⟩ := H1.out.look k g l hG
    have hl' := fun q => (hl (w1.drewN q) rfl).1
    rw [hkv] at hl'
    have HGY := Lib.hid hG
    have HK := Lib.hid hkv
    clear hG hpg hl hkv
    go_quiet (fail)
    clear hl'
    go_wp2_with fail
    have HY := Lib.hid (H1.out.drewN nq)
    have XY : Lies (w1.drewN nq) A (u8s xs) := X1.out
    have XY := Lib.hid XY
    have KY := Lib.hid (K1.out.drewN nq)
    have b1y : (w1.drewN nq).cell? ⟨bs, 0, none⟩ = some (.pointer (some ⟨s, 0, none⟩)) := b1
    have b2y : (w1.drewN nq).cell? ⟨br, 0, none⟩ = some (.slice A r rc) := b2
    have b3y : (w1.drewN nq).frozen? ⟨br, 0, none⟩ = false := b3
    have k0y : (w1.drewN nq).cell? ⟨kb0, 0, none⟩ = some (.int .i64 ka) := hk0
    have k1y : (w1.drewN nq).cell? ⟨kb0, 1, none⟩ = some (.int .i64 kb) := hk1
    have HNY := Lib.hid (show g ≠ br ∧ (0 < (u8s xs).length → ∀ ad, A = some ad → ¬ ad.block = g) from ⟨fun e => HN.out.2.2.1 (Or.inr (Or.inr ⟨k, l, e ▸ HGY.out⟩)), fun _ ad e eg => (HN.out.2.2.2 ad e).1 (Or.inr (Or.inr ⟨k, l, eg ▸ HGY.out⟩))⟩)
    have HGO := Lib.hid (show g < w.heap.size → Mine s m G g ∨ g = br from fun _ => Or.inl (Or.inr (Or.inr ⟨k, l, HGY.out⟩)))
    have HMY := Lib.hid (show ∀ b, Mine s m G b → Mine s m G b ∨ w.heap.size ≤ b from fun _ h => Or.inl h)
    generalize hw2 : w1.drewN nq = wy at *
    clear hw2 hk0 hk1 b1 b2 b3 c1
    obtain ⟨pc, hpc, hl⟩ := HY.out.look k g l HGY.out
    have HL := Lib.hid hl
    have hcp := fun W => cut_page W g pc f t hpc (by have := HT.out; omega) (by have := HT.out; omega)
    have htf : t - f = c := by have := HT.out; omega
    rw [htf] at hcp
    clear htf hl
    refine still_tail 10 (by kernel_rfl) (by kernel_rfl) (fun w3 hw3 => ?_)
    have b1' : w3.cell? ⟨bs, 0, none⟩ = some (.pointer (some ⟨s, 0, none⟩)) := by rw [hw3]; exact b1y
    have b2' : w3.cell? ⟨br, 0, none⟩ = some (.slice A r rc) := by rw [hw3]; exact b2y
    have b3' : w3.frozen? ⟨br, 0, none⟩ = false := by rw [hw3]; exact b3y
    have h3 : IsSp w3 s m P T G := by rw [hw3]; exact HY.out.drew
    have c1' := h3.c1
    have hk0' : w3.cell? ⟨kb0, 0, none⟩ = some (.int .i64 ka) := by rw [hw3]; exact k0y
    have hk1' : w3.cell? ⟨kb0, 1, none⟩ = some (.int .i64 kb) := by rw [hw3]; exact k1y
    have x3 : Lies w3 A (u8s xs) := by rw [hw3]; exact XY.out
    have hl3 := (HL.out w3 (by rw [hw3]; rfl)).2
    rw [HK.out] at hl3
    have hpl : (xs.take c).length = c := by have := HR.out; simp; omega
    have hll := (h3.page k g l HGY.out).2.2.1
    have hco := fun ty => copy_own w3 g f c (pc - f) l (h3.page k g l HGY.out).2.1 A r rc xs (xs.take c) (by have := HR.out; rw [hpl]; omega) (by rw [hpl]; omega) x3 (by rw [hpl]) (by rw [hpl]; exact hc) ty
    rw [hpl] at hco
    have K3 : Kept w w3 (fun b => Mine s m G b ∨ b = br) := by rw [hw3]; exact KY.out.drew
    have H4 := Lib.hid (h3.write k g l HGY.out f (xs.take c) (by rw [hpl]; exact hf))
    have K4 : Kept w3 (w3.setCells g f (u8s (xs.take c))) (fun b => b = g) := (Kept.refl _ (fun b => b = g)).setCells (g := g) (fun _ => rfl) _ _
    have X4 := Lib.hid (K4.lies x3 (fun hn ad e eg => HNY.out.2 hn ad e eg))
    have hb4 := K4.cell_some b2' (fun e => HNY.out.1 e.symm)
    have hf4 : (w3.setCells g f (u8s (xs.take c))).frozen? ⟨br, 0, none⟩ = false := (World.frozen?_setCells _ _ _ _ _).trans b3'
    have KB := Lib.hid (K3.setCells (g := g) HGO.out (u8s (xs.take c)) f)
    have HE := Lib.hid (show bytesOf (setG G k (g, M.splice l f (xs.take c))) = M.wr (bytesOf G) (k * 4096 + f) (xs.take c) from (bytesOf_setG G k f g l (xs.take c) hll (by rw [hpl]; exact hf) (Or.inl (by rw [HGY.out]; rfl))).trans rfl)
    clear hpl hw3 x3 h3 K4 b1y b2y b3y k0y k1y b3' K3 hll
    simp only [List.take_succ_cons, List.take_zero, List.drop_succ_cons, List.drop_zero]
    repeat still_step
    refine wpStill_nil ?_
    generalize hw4 : w3.setCells g f (u8s (xs.take c)) = w4 at *
    clear hw4
    go_wp2_with fail
    go_end0
    have K5 : Kept w4 (w4.setCell ⟨br, 0, none⟩ (.slice A' (r - c) (rc - c))) (fun b => b = br) := (Kept.refl _ (fun b => b = br)).setCell (p := ⟨br, 0, none⟩) (fun _ => rfl) _
    have hm4 : ∀ b, Mine s m (setG G k (g, M.splice l f (xs.take c))) b → Mine s m G b ∨ w.heap.size ≤ b := fun b hb => HMY.out b ((Mine.setG_same HGY.out b).1 hb)
    refine ⟨rfl, show St1 .. from ?_⟩
    refine ⟨_, A', H4.out.kept K5 (fun b hb e => ?_), HE.out, hm4, World.cell?_setCell_same _ _ _ hb4, (World.frozen?_setCell _ _ _ _).trans hf4, ?_, HC.out.2, KB.out.setCell (p := ⟨br, 0, none⟩) (fun _ => Or.inr rfl) _⟩
    · have eb : b = br := e
      subst eb
      rcases hm4 b hb with h | h
      · exact HN.out.2.2.1 h
      · have := SZ.out; omega
    · have := HC.out.1 w4 (u8s xs) (by rw [u8s_length]; exact HR.out.1) X4.out
      rw [← u8s_drop] at this
      exact K5.lies this (fun hn ad e eb => by
        obtain ⟨a', e1, e2⟩ := HC.out.2 ad e
        have := (HN.out.2.2.2 a' e1).2
        have eb' : ad.block = br := eb
        omega)
end Go.Proofs.Ytacognejefeboaa
