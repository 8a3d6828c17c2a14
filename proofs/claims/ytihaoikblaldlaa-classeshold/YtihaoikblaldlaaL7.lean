/-
  What the laws of layer 7 say, as plain mathematics: no program in sight.
-/
import Derived.Test.YtihaoikblaldlaaM7
namespace Go.Proofs.Ytihaoikblaldlaa.M

theorem need_is (s a : Nat) (hp : powB a = true) (ha : a ≤ 4096) (hs : s ≠ 0) (ht : fst a + s < 18446744073709551616) : needB s a = true ∧ needV s a = pgs (fst a + s) := by
  have e : needB s a = true := by
    rw [needB_of s a hp ha]
    unfold addB
    rw [decide_eq_true ht]
    simp [hs]
  exact ⟨e, by unfold needV; rw [if_pos e]⟩
theorem hold_no (s a : Nat) (hp : powB a = true) (ha : a ≤ 4096) (h : chunkB s a = false) : s = 0 ∨ 4294963200 < s := by
  by_cases hs : s = 0
  · exact .inl hs
  · refine .inr ?_
    have hf := fst_le a hp ha
    by_cases ht : fst a + s < 18446744073709551616
    · obtain ⟨h1, h2⟩ := need_is s a hp ha hs ht
      unfold chunkB at h
      rw [h1] at h
      simp at h
      rw [h2] at h
      unfold pgs at h
      split at h <;> omega
    · omega
theorem hold_yes (s a : Nat) (hp : powB a = true) (ha : a ≤ 4096) (h : chunkB s a = true) : ∃ f t m n : Nat, upV 32 a = f ∧ f ≤ 4096 ∧ f + s = t ∧ t < 18446744073709551616 ∧ chunkV s a = m ∧ m ≤ 1048576 ∧ pgs t = n ∧ n ≤ 1048576 ∧ t ≤ m * 4096 ∧
    ((chunkL s a = true ∧ 64 < m ∧ m = n) ∨ (chunkL s a = false ∧ m ≤ 64 ∧ powB m = true ∧ m < 2 * n)) := by
  have hf := fst_le a hp ha
  have h0 := h
  unfold chunkB at h
  simp only [Bool.and_eq_true, decide_eq_true_eq] at h
  obtain ⟨hb, hn⟩ := h
  have hb0 := hb
  rw [needB_of s a hp ha] at hb
  simp only [Bool.and_eq_true] at hb
  have ht := addB_lt _ _ hb.2
  have hs : s ≠ 0 := by simpa using hb.1
  obtain ⟨h1, h2⟩ := need_is s a hp ha hs ht
  have hpb := pgs_bounds (fst a + s) (by omega)
  rw [← h2] at hpb
  by_cases hl : 64 < needV s a
  · obtain ⟨c1, c2, c3⟩ := chunk_large s a hb0 hn hl
    exact ⟨fst a, fst a + s, needV s a, needV s a, rfl, hf, rfl, ht, c1, hn, h2.symm, hn, hpb.2, .inl ⟨c2, hl, rfl⟩⟩
  · obtain ⟨c1, c2, c3⟩ := chunk_small s a hb0 hl
    have hp1 := needV_pos s a hb0
    obtain ⟨d1, d2, d3, d4, d5, d6⟩ := cls_some (needV s a : Int) (by omega) (by omega)
    have g1 := pg_le (cls (needV s a))
    have g2 := pg_pow (cls (needV s a)).toNat (by omega)
    rw [show (((cls (needV s a)).toNat : Nat) : Int) = cls (needV s a) by omega] at g2
    have hq := powB_two_pow (cls (needV s a)).toNat
    generalize 2 ^ (cls (needV s a)).toNat = m at *
    rw [g2] at c1 d3 d4 g1
    exact ⟨fst a, fst a + s, m, needV s a, rfl, hf, rfl, ht, c1, by omega, h2.symm, hn, by omega, .inr ⟨c2, by omega, hq, by omega⟩⟩
theorem rise (s a b : Nat) (hp : powB a = true) (hq : powB b = true) (hb : b ≤ 4096) (h : a ≤ b) (hn : needB s b = true) : needB s a = true ∧ needV s a ≤ needV s b := by
  have hf := fst_mono a b hp hq hb h
  have h0 := hn
  rw [needB_of s b hq hb] at hn
  simp only [Bool.and_eq_true] at hn
  have ht := addB_lt _ _ hn.2
  have hs : s ≠ 0 := by simpa using hn.1
  obtain ⟨h1, h2⟩ := need_is s a hp (by omega) hs (by omega)
  obtain ⟨h3, h4⟩ := need_is s b hq hb hs ht
  rw [h2, h4]
  exact ⟨h1, pgs_mono _ _ (by omega)⟩
theorem rise_more (s m a : Nat) (hp : powB a = true) (ha : a ≤ 4096) (h : addB s m = true) (hn : needB s a = true) (ho : needB (addV s m) a = true) : needV s a ≤ needV (addV s m) a := by
  have h0 := hn
  rw [needB_of s a hp ha] at hn
  simp only [Bool.and_eq_true] at hn
  have ht := addB_lt _ _ hn.2
  have hs : s ≠ 0 := by simpa using hn.1
  have e := addV_eq s m h
  rw [e] at ho ⊢
  have h5 := ho
  rw [needB_of _ a hp ha] at ho
  simp only [Bool.and_eq_true] at ho
  have hu := addB_lt _ _ ho.2
  obtain ⟨h1, h2⟩ := need_is s a hp ha hs ht
  obtain ⟨h3, h4⟩ := need_is (s + m) a hp ha (by omega) hu
  rw [h2, h4]
  exact pgs_mono _ _ (by omega)
theorem exact_full (a : Nat) (hp : powB a = true) (ha : a ≤ 4096) (h : fst a = 4096) : a = 4096 := by
  obtain ⟨h1, h2, h3, h4⟩ := fst_up a hp ha
  obtain ⟨c, hc⟩ := pow_dvd a 4096 hp (powB_two_pow 12) ha
  rcases (by omega : c = 0 ∨ c = 1 ∨ 2 ≤ c) with rfl | rfl | h5
  · omega
  · omega
  · have : a * 2 ≤ a * c := Nat.mul_le_mul_left a h5
    omega
theorem exact_need (g a : Nat) (hp : powB a = true) (ha : a ≤ 4096) (h1 : 1 ≤ g) (h2 : g ≤ 64) (h0 : g * 4096 - fst a ≠ 0) : needB (g * 4096 - fst a) a = true ∧ needV (g * 4096 - fst a) a = g := by
  have hf := fst_le a hp ha
  obtain ⟨e1, e2⟩ := need_is (g * 4096 - fst a) a hp ha h0 (by omega)
  refine ⟨e1, ?_⟩
  rw [e2, show fst a + (g * 4096 - fst a) = g * 4096 by omega]
  unfold pgs
  split <;> omega
theorem exact_need1 (g a : Nat) (hp : powB a = true) (ha : a ≤ 4096) (h1 : 1 ≤ g) (h2 : g ≤ 64) : needB (g * 4096 - fst a + 1) a = true ∧ needV (g * 4096 - fst a + 1) a = g + 1 := by
  have hf := fst_le a hp ha
  obtain ⟨e1, e2⟩ := need_is (g * 4096 - fst a + 1) a hp ha (by omega) (by omega)
  refine ⟨e1, ?_⟩
  rw [e2, show fst a + (g * 4096 - fst a + 1) = g * 4096 + 1 by omega]
  unfold pgs
  split <;> omega
theorem exact_small (g a : Nat) (hg : g = 1 ∨ g = 2 ∨ g = 4 ∨ g = 8 ∨ g = 16 ∨ g = 32 ∨ g = 64) (hp : powB a = true) (ha : a ≤ 4096) (h0 : g * 4096 - fst a ≠ 0) :
    chunkV (g * 4096 - fst a) a = (g : Int) ∧ chunkL (g * 4096 - fst a) a = false ∧ chunkB (g * 4096 - fst a) a = true := by
  obtain ⟨e1, e2⟩ := exact_need g a hp ha (by omega) (by omega) h0
  obtain ⟨c1, c2, c3⟩ := chunk_small _ a e1 (by rw [e2]; omega)
  rw [e2] at c1
  refine ⟨c1.trans ?_, c2, c3⟩
  rcases hg with rfl | rfl | rfl | rfl | rfl | rfl | rfl <;> rfl
theorem exact_next (g a : Nat) (hg : g = 1 ∨ g = 2 ∨ g = 4 ∨ g = 8 ∨ g = 16 ∨ g = 32) (hp : powB a = true) (ha : a ≤ 4096) :
    chunkV (g * 4096 - fst a + 1) a = ((2 * g : Nat) : Int) ∧ chunkL (g * 4096 - fst a + 1) a = false ∧ chunkB (g * 4096 - fst a + 1) a = true := by
  obtain ⟨e1, e2⟩ := exact_need1 g a hp ha (by omega) (by omega)
  obtain ⟨c1, c2, c3⟩ := chunk_small _ a e1 (by rw [e2]; omega)
  rw [e2] at c1
  refine ⟨c1.trans ?_, c2, c3⟩
  rcases hg with rfl | rfl | rfl | rfl | rfl | rfl <;> rfl
theorem exact_last (a : Nat) (hp : powB a = true) (ha : a ≤ 4096) :
    chunkV (64 * 4096 - fst a + 1) a = 65 ∧ chunkL (64 * 4096 - fst a + 1) a = true ∧ chunkB (64 * 4096 - fst a + 1) a = true := by
  obtain ⟨e1, e2⟩ := exact_need1 64 a hp ha (by omega) (by omega)
  obtain ⟨c1, c2, c3⟩ := chunk_large _ a e1 (by rw [e2]; decide) (by rw [e2]; decide)
  rw [e2] at c1
  exact ⟨c1, c2, c3⟩
end Go.Proofs.Ytihaoikblaldlaa.M
