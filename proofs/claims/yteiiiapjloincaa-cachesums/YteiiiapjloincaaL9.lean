/-
  What the laws of layer 9 go by: no program in sight.
-/
import Derived.Test.YteiiiapjloincaaM9
namespace Go.Proofs.Yteiiiapjloincaa.M

theorem pushB_len {f : Ky} {c p : Int} (h0 : 0 ≤ c) (h7 : c < 7) (hp : 0 ≤ p) : pushB f c p = decide ((f c).length < 4) := by
  unfold pushB
  rw [decide_eq_true h0, decide_eq_true h7, decide_eq_true hp]
  rfl
theorem pushF_self {f : Ky} {c p : Int} (h : pushB f c p = true) : pushF f c p c = f c ++ [p] := by rw [pushF_yes _ _ _ h, upd_self]
theorem pushF_ne {f : Ky} {c p d : Int} (h : d ≠ c) : pushF f c p d = f d := by
  unfold pushF
  split
  · exact upd_ne _ _ _ _ h
  · rfl
theorem popF_self {f : Ky} {c : Int} : popF f c c = (f c).dropLast := upd_self _ _ _
theorem popF_ne {f : Ky} {c d : Int} (h : d ≠ c) : popF f c d = f d := upd_ne _ _ _ _ h
theorem pop_snoc {f : Ky} {c x : Int} {l : List Int} (h : f c = l ++ [x]) : popV f c = x ∧ popB f c = true ∧ popF f c c = l := by
  refine ⟨?_, ?_, ?_⟩
  · unfold popV; rw [h]; simp
  · unfold popB; rw [h]; simp
  · rw [popF_self, h]; simp
theorem pop_nil {f : Ky} {c : Int} (h : f c = []) : popV f c = 0 ∧ popB f c = false := by
  refine ⟨?_, ?_⟩
  · unfold popV; rw [h]; rfl
  · unfold popB; rw [h]; rfl
theorem take_snocI {xs : List Int} {i : Nat} (h : i < xs.length) : xs.take (i + 1) = xs.take i ++ [xs[i]] := by rw [List.take_add_one, List.getElem?_eq_getElem h]; rfl
/-- One more is pushed on a class that has the first ones. -/
theorem last_step {f : Ky} {c x : Int} {xs : List Int} {i : Nat} (h0 : 0 ≤ c) (h7 : c < 7) (hi : i < xs.length) (hx : xs[i] = x) (hp : 0 ≤ x) (h : f c = xs.take (min i 4)) :
    pushB f c x = decide (i < 4) ∧ pushF f c x c = xs.take (min (i + 1) 4) := by
  have hb := pushB_len (f := f) h0 h7 hp
  have hl : (f c).length = min i 4 := by rw [h, List.length_take]; omega
  by_cases hi4 : i < 4
  · have e : pushB f c x = true := by rw [hb, hl]; simp; omega
    refine ⟨by rw [e]; simp [hi4], ?_⟩
    rw [pushF_self e, h, show min i 4 = i by omega, show min (i + 1) 4 = i + 1 by omega, take_snocI hi, hx]
  · have e : pushB f c x = false := by rw [hb, hl]; simp; omega
    refine ⟨by rw [e]; simp [hi4], ?_⟩
    rw [pushF_no _ _ _ e, h, show min i 4 = 4 by omega, show min (i + 1) 4 = 4 by omega]
/-- The last one of the first ones is popped. -/
theorem last_pop {f : Ky} {c : Int} {xs : List Int} {m : Nat} (hm : m < xs.length) (h : f c = xs.take (m + 1)) :
    popV f c = xs[m] ∧ popB f c = true ∧ popF f c c = xs.take m := pop_snoc (by rw [h, take_snocI hm])
def ints8 (l : List UInt8) : List Int := l.map fun b => (b.toNat : Int)
theorem ints8_length (l : List UInt8) : (ints8 l).length = l.length := by simp [ints8]
theorem ints8_at (l : List UInt8) (i : Nat) (h : i < (ints8 l).length) : (ints8 l)[i] = ((l[i]'(by rw [ints8_length] at h; exact h)).toNat : Int) := by simp [ints8]
end Go.Proofs.Yteiiiapjloincaa.M
