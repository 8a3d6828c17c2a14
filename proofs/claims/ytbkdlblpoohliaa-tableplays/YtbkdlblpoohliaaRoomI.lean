/-
  A table of ints: room for a thing.
-/
import Derived.Test.YtbkdlblpoohliaaHasI
namespace Go.Proofs.Ytbkdlblpoohliaa.TI
open Go.ChangeShapes Go.WideShapes Go.ChangeAt Go.RowKit Go.Deep T13
set_option linter.unusedVariables false
set_option maxRecDepth 20000

section
variable {w : World} {B t : Nat} {K : Int} {S : M.Tt Th} {Q : Nat → Prop}
theorem room_new (h : Has w B t K S Q) (hf : S.f = []) (hl : S.s.length ≤ 1000000) :
    Calls Try.prog 37 #[.pointer (some ⟨t, 0, none⟩)] w fun e w' => e = .returned (.int .i64 (S.s.length : Int)) ∧ Got w w' B t K (S.room z0) Q := by
  obtain ⟨A, F, n, c, m, d, ht, hA, hF⟩ := h.ex
  have hn := ht.n_eq
  have hm : m = 0 := by have := ht.m_eq; rw [hf] at this; simpa using this
  subst hm
  rw [← hn]
  have er : S.room z0 = ⟨S.s ++ [e0], []⟩ := by unfold M.Tt.room; rw [hf]; rfl
  rw [er]
  have c1 := ht.c1
  have c2 := ht.c2
  obtain ⟨i0, hi, hi0, hi1, hi2⟩ := infoT
  have HI := Lib.hid (show _ ∧ _ ∧ _ ∧ _ from ⟨hi, hi0, hi1, hi2⟩)
  have OWN := Lib.hid (ht.row.alloc (.cells #[.int .i64 0, .int .i64 0, .int .i64 (z0)] 80))
  have NEW := Lib.hid (news_new w (cel K e0) 80)
  have ONE := Lib.hid (show ∀ u ∈ cel K e0, u.oneCell' = true from fun u hu => tcs_one K [e0] u (by simpa [tcs] using hu))
  have HB := Lib.hid (show B ≤ (w.alloc (.cells #[.int .i64 0, .int .i64 0, .int .i64 (z0)] 80)).heap.size from by have := h.low; simp; omega)
  have HT := Lib.hid ht
  have HH := Lib.hid h
  have HA := Lib.hid hA
  have HF := Lib.hid hF
  have H0 := Lib.hid hf
  have hn6 : n ≤ 1000000 := by omega
  clear ht h hA hF hf hn hl er hi hi0 hi1 hi2
  go_enter Try.func37, Try.ntmps37
  go_wp2_with (at_builtin; refine wpList_append_lies _ rfl _ _ 72 rfl B 80 i0 (.agg #[.int .i64 0, .int .i64 0, .int .i64 (z0)]) 3 24 Try.underlying72 HI.out.1 HI.out.2.1 HI.out.2.2.1 HI.out.2.2.2 rfl (by decide) (.slice A n c) n (tcs K S.s) rfl OWN.out ⟨w.heap.size, 0, none⟩ 1 1 (cel K e0) rfl rfl NEW.out ONE.out (by decide) (by unfold maxLen; omega) (by omega) HB.out _ rfl ?_; intro g1 c4 w4 hrow hgr hat hlt; (have K4 : Kept w w4 (rowD A) := ((Kept.refl w _).alloc _).grown hgr (fun x e _ => own_D e)); (have p1 : w4.cell? ⟨t, 1, none⟩ = some (.slice A n c) := K4.cell_some c1 HT.out.offA); (have q1 : w4.frozen? ⟨t, 1, none⟩ = false := by rw [World.frozen?_of_block (K4.block t HT.out.lt HT.out.offA)]; exact HT.out.frz 1); (have HR := Lib.hid hrow); (have HW := Lib.hid hat); (have HL := Lib.hid hlt); (have HK := Lib.hid K4); clear hrow hgr hat hlt K4)
  go_ret
  have k4 := HK.out
  have hlt := HL.out
  have hk5 : Kept w (w4.setCell ⟨t, 1, none⟩ (.slice (some ⟨g1, 0, none⟩) (n + 1) c4)) Q := (k4.mono (fun x _ hx => HA.out x hx)).setCell (p := ⟨t, 1, none⟩) (fun _ => HH.out.qt) _
  refine ⟨ret1 (by omega), HH.out.got hk5 (HT.out.turn (S' := ⟨S.s ++ [e0], []⟩) ?_ (k4.block t HT.out.lt HT.out.offA) ?_) (fun x hx => ?_) (fun x hx => .inl (HF.out x hx))⟩
  · show w4.ownsRow B _ _ _ _ (tcs K (S.s ++ [e0]))
    rw [tcs_append, show tcs K [e0] = cel K e0 by simp [tcs]]
    exact HR.out
  · have := row_kept HT.out.fre k4 (fun x hx e => HT.out.apart e hx)
    rw [H0.out] at this
    exact this
  · rw [rowD_some hx]
    rcases HW.out with e | e
    · exact .inl (HA.out _ (own_D e))
    · exact .inr ⟨by rw [e]; simp, by simpa using hlt⟩
theorem room_old (h : Has w B t K S Q) {l : List Nat} {i : Nat} (hf : S.f = l ++ [i]) (hl : l.length ≤ 1000000) :
    Calls Try.prog 37 #[.pointer (some ⟨t, 0, none⟩)] w fun e w' => e = .returned (.int .i64 (i : Int)) ∧ Got w w' B t K (S.room z0) Q := by
  obtain ⟨A, F, n, c, m, d, ht, hA, hF⟩ := h.ex
  obtain ⟨k, hk⟩ : ∃ k, k = l.length := ⟨_, rfl⟩
  have hm : m = k + 1 := by have := ht.m_eq; rw [hf] at this; simp at this; omega
  subst hm
  have er : S.room z0 = ⟨S.s, l⟩ := by unfold M.Tt.room; rw [hf, if_neg (by simp), List.dropLast_concat]
  rw [er]
  have c1 := ht.c1
  have c2 := ht.c2
  have f2 := ht.frz 2
  have hr : w.ownsRow B 3 1 (.slice F (k + 1) d) (k + 1) (nats (l ++ [i])) := by have := ht.fre; rwa [hf] at this
  obtain ⟨gf, rfl, ci⟩ := nat_cell hr (j := k) (i := i) (by rw [hk]; simp)
  have hd := row_cap hr
  have cut := icut13_to gf 0 (k + 1) d k (by omega)
  have hr2 : w.ownsRow B 3 1 (.slice (some ⟨gf, 0, none⟩) k d) k (nats l) := by
    have := row_take hr (k := k) (by omega) (by omega)
    rw [nats_append, Nat.mul_one, hk, ← nats_length l, List.take_left] at this
    rw [hk, ← nats_length l]; exact this
  have R2 := Lib.hid hr2
  have HT := Lib.hid ht
  have HH := Lib.hid h
  have HA := Lib.hid hA
  have HF := Lib.hid hF
  have hk6 : k ≤ 1000000 := by omega
  clear ht h hA hF hf hl er hr hr2 hk
  go_enter Try.func37, Try.ntmps37
  go_wp2_with fail
  go_ret
  have hk5 : Kept w (w.setCell ⟨t, 2, none⟩ (.slice (some ⟨gf, 0, none⟩) k d)) Q := (Kept.refl w Q).setCell (p := ⟨t, 2, none⟩) (fun _ => HH.out.qt) _
  exact ⟨rfl, HH.out.got hk5 (HT.out.turnF (S' := ⟨S.s, l⟩) HT.out.row rfl R2.out) (fun x hx => .inl (HA.out x hx)) (fun x hx => .inl (HF.out x hx))⟩
/-- The slot for one thing more. -/
theorem room_any (h : Has w B t K S Q) (hl : S.s.length ≤ 1000000) (hl2 : S.f.length ≤ 1000000) :
    Calls Try.prog 37 #[.pointer (some ⟨t, 0, none⟩)] w fun e w' => e = .returned (.int .i64 (S.at' : Int)) ∧ Got w w' B t K (S.room z0) Q := by
  rcases List.eq_nil_or_concat S.f with e | ⟨l, i, e⟩
  · rw [M.at_nil e]; exact room_new h e hl
  · rw [List.concat_eq_append] at e
    rw [M.at_snoc e]
    exact room_old h e (by rw [e] at hl2; simp at hl2; omega)
end
end Go.Proofs.Ytbkdlblpoohliaa.TI
