/-
  What Zero's closure does to one page's bytes.
-/
import Derived.Test.YtacognejefeboaaLd
namespace Go.Proofs.Ytacognejefeboaa
open Go.ChangeShapes Go.WideShapes Go.ChangeAt Go.RowKit
set_option linter.unusedVariables false
set_option maxRecDepth 20000

theorem zero5 (w : World) : (zeroValue 5).run Try.prog w = .ok (.int .u8 0) w := by kernel_rfl
theorem clear_own (W : World) (g o n c : Nat) (L : List UInt8) (ho : Own W g L) (h : o + n ≤ L.length) (h0 : 0 < n) (ty : TypeId) :
    (Builtin.clear_ #[34] ty #[.slice (some ⟨g, o, none⟩) n c]).run Try.prog W = .ok (.tuple #[]) (W.setCells g o (u8s (List.replicate n 0))) := by
  have := Lib.run_clear_slice (P := Try.prog) W 34 5 ty (.int .u8 0) Try.underlying34 zero5 rfl rfl g o n c h0 (fun j hj => by rw [ho.1 (o + j) (by omega)]; rfl) (fun j hj => ho.2 (o + j) (by omega))
  rw [this]
  simp [u8s]

theorem Mine.setG_same {s m : Nat} {G : Pgs} {k g : Nat} {l l' : List UInt8} (h : G k = some (g, l)) (b : Nat) : Mine s m (setG G k (g, l')) b ↔ Mine s m G b := by
  constructor
  · intro hb
    rcases hb.of_setG with hb | rfl
    · exact hb
    · exact Or.inr (Or.inr ⟨k, l, h⟩)
  · rintro (hb | hb | ⟨j, lj, e⟩)
    · exact Or.inl hb
    · exact Or.inr (Or.inl hb)
    · by_cases ej : j = k
      · subst ej
        rw [h] at e
        injection e with e
        injection e with e _
        subst e
        exact Or.inr (Or.inr ⟨j, l', Go.Proofs.Ytacognejefeboaa.setG_same G j _⟩)
      · exact Or.inr (Or.inr ⟨j, lj, by rw [setG_other G _ ej]; exact e⟩)

theorem zero1_any {w : World} {s m P T : Nat} {G : Pgs} (h : IsSp w s m P T G) (bs : Nat) (hbs : w.cell? ⟨bs, 0, none⟩ = some (.pointer (some ⟨s, 0, none⟩)))
    (k f c : Nat) (hk : k < P) (hc : 0 < c) (hf : f + c ≤ 4096) :
    Calls Try.prog 55 #[keyV k, .int .u64 (f : Int), .int .u64 ((f + c : Nat) : Int), .pointer (some ⟨bs, 0, none⟩)] w
      fun e w' => e = .returned (.tuple #[]) ∧ ∃ G', IsSp w' s m P T G' ∧ bytesOf G' = M.zr (bytesOf G) (k * 4096 + f) c ∧ (∀ b, Mine s m G' b ↔ Mine s m G b) ∧ Kept w w' (Mine s m G) := by
  have hkey : ∃ ka kb : Int, keyV k = .agg #[.int .i64 ka, .int .i64 kb] := ⟨_, _, rfl⟩
  obtain ⟨ka, kb, hkv⟩ := hkey
  rw [hkv]
  obtain ⟨t, ht⟩ : ∃ t, t = f + c := ⟨_, rfl⟩
  rw [← ht]
  have HT := Lib.hid ht; clear ht
  have hslt := h.slt
  have hbsl := lt_of_cell hbs
  go_enter Try.func55, Try.ntmps55
  go_wp2_with fail
  have hk0 := (World.cell?_alloc_mark w #[.int .i64 ka, .int .i64 kb] 90 (0, 0) 0)
  have hk1 := (World.cell?_alloc_mark w #[.int .i64 ka, .int .i64 kb] 90 (0, 0) 1)
  have K1 := Lib.hid ((Kept.refl w (Mine s m G)).alloc (.cells #[.int .i64 ka, .int .i64 kb] 90))
  have h1 := h.alloc (.cells #[.int .i64 ka, .int .i64 kb] 90)
  have b1 := (World.cell?_alloc_lt w (.cells #[.int .i64 ka, .int .i64 kb] 90) ⟨bs, 0, none⟩ hbsl).trans hbs
  generalize hw1 : w.alloc (.cells #[.int .i64 ka, .int .i64 kb] 90) = w1 at hk0 hk1 K1 h1 b1 ⊢
  clear hw1
  have c1 := h1.c1
  have H1 := Lib.hid h1
  clear h hbs h1
  rcases hG : G k with _ | ⟨g, l⟩
  · have hl := fun q => (H1.out.drewN q).look_no k hk hG
    rw [hkv] at hl
    have HG := Lib.hid hG
    clear hG hkv
    go_quiet (fail)
    go_wp2_with fail
    go_end0
    exact ⟨rfl, G, H1.out.drewN nq, (M.flat_zr_none _ k f c hf (by rw [HG.out]; rfl)).symm, fun _ => Iff.rfl, K1.out.drewN nq⟩
  · obtain ⟨pc, hpc, hl⟩ := H1.out.look k g l hG
    have hpg := H1.out.page k g l hG
    have hl' := fun q => (hl (w1.drewN q) rfl).1
    rw [hkv] at hl'
    have HG := Lib.hid hG
    have HP := Lib.hid hpg
    clear hG hkv hpg hl
    have hcp := fun W => cut_page W g pc f t hpc (by have := HT.out; omega) (by have := HT.out; omega)
    have htf : t - f = c := by have := HT.out; omega
    rw [htf] at hcp
    clear htf
    have hcl := fun q ty => clear_own (w1.drewN q) g f c (pc - f) l HP.out.2.1 (by have := HP.out.2.2.1; omega) hc ty
    go_quiet (fail)
    go_wp2_with fail
    go_end0
    have hw := H1.out.drewN nq |>.write k g l HG.out f (List.replicate c 0) (by simp; exact hf)
    refine ⟨rfl, _, hw, ?_, fun b => Mine.setG_same HG.out b, (K1.out.drewN nq).setCells (g := g) (fun _ => Or.inr (Or.inr ⟨k, l, HG.out⟩)) _ _⟩
    rw [bytesOf_setG G k f g l _ HP.out.2.2.1 (by simp; exact hf) (Or.inl (by rw [HG.out]; rfl)), M.zr_eq]
end Go.Proofs.Ytacognejefeboaa
