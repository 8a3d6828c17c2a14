/-
  'touch', and 'each' for whatever it is handed.
-/
import Derived.Test.YtacognejefeboaaCon
namespace Go.Proofs.Ytacognejefeboaa
open Go.ChangeShapes Go.WideShapes Go.ChangeAt Go.RowKit
set_option linter.unusedVariables false
set_option maxRecDepth 20000

theorem touch_any {w : World} {s m P T : Nat} {G : Pgs} (h : IsSp w s m P T G) (a n : Nat) (ha : a + n ≤ 4294967296) (hT : T + M.touched a n < 9223372036854775808) :
    Calls Try.prog 44 #[.pointer (some ⟨s, 0, none⟩), .int .u64 a, .int .u64 n] w fun e w' => e = .returned (.tuple #[]) ∧ IsSp w' s m P (T + M.touched a n) G ∧ Kept w w' (fun b => b = s) := by
  have c2 := h.c2
  have f2 := h.f2
  have Hs := Lib.hid h; clear h
  by_cases hn : n < 1
  · obtain rfl : n = 0 := by omega
    have ht : M.touched a 0 = 1 := rfl
    rw [ht] at hT ⊢
    go_enter Try.func44, Try.ntmps44
    go_wp2
    go_end0
    exact ⟨rfl, Hs.out.tick (T + 1) _ (by omega), (Kept.refl _ (fun b => b = s)).setCell (p := ⟨s, 2, none⟩) (fun _ => rfl) _⟩
  · go_enter Try.func44, Try.ntmps44
    go_wp2
    go_end0
    have hw : wrap64 ((T : Int) + (((a : Int) + n - 1) / 4096 - (a : Int) / 4096 + 1)) = ((T + M.touched a n : Nat) : Int) := by
      have e : M.touched a n = (a + n - 1) / 4096 - a / 4096 + 1 := by unfold M.touched; rw [if_neg (by omega)]
      rw [e] at hT ⊢
      unfold wrap64
      omega
    exact ⟨rfl, Hs.out.tick _ _ hw, (Kept.refl _ (fun b => b = s)).setCell (p := ⟨s, 2, none⟩) (fun _ => rfl) _⟩

theorem key_at (z : Int) (k : Nat) (hz : z = (k : Int)) (hk : k < 4503599627370496) (w : World) :
    Calls Try.prog 60 #[.int .u64 z] w fun e w' => e = .returned (keyV k) ∧ Below w.heap.size w w' := by
  subst hz
  exact key_any k hk w

theorem each_any (F : Nat) (caps : Array Value) (a n : Nat) (ha : a + n ≤ 4294967296) (hF : ∀ args w, (callFunc F args).run Try.prog w = .ok (.enter F args) w) (Inv : Nat → World → Prop) (w : World) (h0 : Inv 0 w)
    (hdrop : ∀ d wr wr', Inv d wr → Below wr.heap.size wr wr' → Inv d wr')
    (hstep : ∀ d wr, d < n → Inv d wr → ∀ c, c = min (4096 - (a + d) % 4096) (n - d) →
      Calls Try.prog F (#[keyV ((a + d) / 4096), .int .u64 (((a + d) % 4096 : Nat) : Int), .int .u64 (((a + d) % 4096 + c : Nat) : Int)] ++ caps) wr fun e w' => e = .returned (.tuple #[]) ∧ Inv (d + c) w') :
    Calls Try.prog 42 #[.int .u64 a, .int .u64 n, .func (.func F) #[] caps] w fun e w' => e = .returned (.tuple #[]) ∧ Inv n w' := by
  go_enter Try.func42, Try.ntmps42
  go_wp2_with fail
  go_loopw [0, 1] (fun x y wr => ∃ d : Nat, d ≤ n ∧ x = .int .u64 ((a + d : Nat) : Int) ∧ y = .int .u64 ((n - d : Nat) : Int) ∧ Inv d wr) (fun _ y _ => (intOf y).toNat)
  case atStart => exact ⟨0, by omega, by simp, by simp, h0⟩
  case round =>
    obtain ⟨d, hd, rfl, rfl, hI⟩ := hrel
    obtain ⟨x, hx⟩ : ∃ x, x = a + d := ⟨_, rfl⟩
    obtain ⟨y, hy⟩ : ∃ y, y = n - d := ⟨_, rfl⟩
    rw [← hx, ← hy]
    have hs := hstep d
    rw [← hx, ← hy] at hs
    have HX := Lib.hid (show x = a + d ∧ y = n - d from ⟨hx, hy⟩)
    have HD := Lib.hid hdrop
    have HS := Lib.hid hs
    have hx32 : x + y ≤ 4294967296 := by omega
    clear hs hstep hdrop hx hy h0
    by_cases h0 : y = 0
    · subst h0
      go_wp2
      go_end0
      obtain rfl : d = n := by have := HX.out; omega
      exact ⟨rfl, hI⟩
    · have hy0 : 0 < y := by omega
      have step : ∀ c w1, c = min (4096 - x % 4096) y → Below wr.heap.size wr w1 → Calls Try.prog F (#[keyV (x / 4096), .int .u64 ((x % 4096 : Nat) : Int), .int .u64 ((x % 4096 + c : Nat) : Int)] ++ caps) w1 fun e w' => e = .returned (.tuple #[]) ∧ Inv (d + c) w' :=
        fun c w1 hc hb => HS.out w1 (by have := HX.out; omega) (HD.out d wr w1 hI hb) c hc
      have ST := Lib.hid step
      clear step HS HD
      by_cases hc : x % 4096 + y ≤ 4096
      · go_wp2_with fail
        refine (key_at _ (x / 4096) (by omega) (by omega) _).mono ?_
        rintro e w1 ⟨rfl, hb1⟩
        go_wp2_with fail
        have := ST.out y w1 (by omega) hb1
        refine Calls.mono (by simpa using this) ?_
        rintro e w2 ⟨rfl, hI2⟩
        go_wp2_with fail
        go_roundw
        case rel => exact ⟨d + y, by have := HX.out; omega, by have := HX.out; congr 1; omega, by have := HX.out; congr 1; omega, hI2⟩
        case measure => simp [intOf]; omega
      · obtain ⟨c, hcc⟩ : ∃ c, c = 4096 - x % 4096 := ⟨_, rfl⟩
        have HC := Lib.hid hcc; clear hcc
        go_wp2_with fail
        refine (key_at _ (x / 4096) (by omega) (by omega) _).mono ?_
        rintro e w1 ⟨rfl, hb1⟩
        go_wp2_with fail
        have hc4 : x % 4096 + c = 4096 := by have := HC.out; omega
        have := ST.out c w1 (by have := HC.out; omega) hb1
        rw [hc4] at this
        refine Calls.mono (by simpa using this) ?_
        rintro e w2 ⟨rfl, hI2⟩
        go_wp2_with fail
        go_roundw
        case rel => exact ⟨d + c, by have := HX.out; omega, by have := HX.out; congr 1; omega, by have := HX.out; congr 1; omega, hI2⟩
        case measure => simp [intOf]; omega
end Go.Proofs.Ytacognejefeboaa
