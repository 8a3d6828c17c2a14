/-
  Fill, Put and Add of a space, of any width and place.
-/
import Derived.Test.YtacognejefeboaaCel
namespace Go.Proofs.Ytacognejefeboaa
open Go.ChangeShapes Go.WideShapes Go.ChangeAt Go.RowKit
set_option linter.unusedVariables false
set_option maxRecDepth 20000

theorem bytes_one (k : Nat) (hk : k = 1 ∨ k = 2 ∨ k = 4 ∨ k = 8) (n g g1 : Nat) (hn : n < 18446744073709551616) (w : World) (hg1 : w.heap.size = g1) (hc : w.cell? ⟨g, 0, none⟩ = some (.int .u64 n)) :
    Calls Try.prog 25 #[.int .i64 k, .slice (some ⟨g, 0, none⟩) 1 1] w fun e w' =>
      e = .returned (.slice (some ⟨g1, 0, none⟩) k k) ∧ Own w' g1 (M.enc k n) ∧ Below w.heap.size w w' := by
  subst hg1
  have h := bytes_yes k hk (some ⟨g, 0, none⟩) [n] 1 (by simp) (by simpa using hn) w (fun _ => ⟨_, rfl, fun j hj => by
    obtain rfl : j = 0 := by simp [u64s] at hj; omega
    rw [add_zero']
    exact hc⟩)
  rw [M.bts_one] at h
  simpa using h
theorem repeat_any (k : Nat) (hk : k = 1 ∨ k = 2 ∨ k = 4 ∨ k = 8) (A : Option Addr) (c t : Nat) (b : List UInt8) (hb : b.length = k) (ht : t ≤ 1048576) (w : World) (hl : Lies w A (u8s b)) :
    Calls Try.prog 65 #[.slice A k c, .int .i64 t] w fun e w' => ∃ g N, e = .returned (.slice (some ⟨g, 0, none⟩) N N) ∧ N = k * t ∧ Own w' g (M.rep b t) ∧ Below w.heap.size w w' ∧ w.heap.size ≤ g := by
  rcases Nat.eq_zero_or_pos t with rfl | h0
  · refine (repeat_zero A k c w).mono ?_
    rintro e w' ⟨rfl, b1⟩
    exact ⟨_, 0, rfl, by omega, by rw [M.rep_zero]; exact Own.nil, b1, Nat.le_refl _⟩
  · refine (repeat_yes k hk A c t (k * t) w.heap.size b hb h0 ht rfl w rfl hl).mono ?_
    rintro e w' ⟨rfl, o, b1, h1⟩
    exact ⟨_, _, rfl, rfl, o, b1, Nat.le_refl _⟩

/-- A call that answers a number, of which something is told. -/
def ErrIs (Q : Int → World → Prop) (e : Ending) (w : World) : Prop := ∃ err, e = .returned (.int .i64 err) ∧ Q err w
/-- May as many be filled? -/
def flB (a : Nat) (y t : Int) : Bool := plB a y && (decide (0 ≤ t) && decide (t ≤ 1048576 / y))
theorem cfill_bad (p : Value) (a n : Nat) (y t : Int) (ha : a < 18446744073709551616) (h : flB a y t = false) (w : World) :
    Calls Try.prog 54 #[p, .int .u64 a, .int .i64 y, .int .u64 n, .int .i64 t] w fun e w' => e = .returned (.int .i64 1) ∧ w = w' := by
  by_cases hp : plB a y = true
  · obtain ⟨k, rfl, hk, hd⟩ := plB_cases hp
    unfold flB at h
    rw [hp, Bool.true_and] at h
    have h' : t < 0 ∨ (0 ≤ t ∧ 1048576 / (k : Int) < t) := by
      by_cases h0 : t < 0
      · exact Or.inl h0
      · refine Or.inr ⟨by omega, ?_⟩
        have e0 : decide (0 ≤ t) = true := decide_eq_true (by omega)
        rw [e0, Bool.true_and] at h
        have := of_decide_eq_false h
        omega
    clear h hd
    rcases h' with h' | ⟨h0, h'⟩
    · clear hk
      go_enter Try.func54, Try.ntmps54
      go_wp2_with (go_at_call 64; refine (placed_any _ _ ha _).mono ?_; rintro e w' ⟨rfl, rfl⟩)
      go_ret
      exact ⟨rfl, rfl⟩
    · rcases hk with rfl | rfl | rfl | rfl
      · have h1 : (1048576 : Int) < t := by omega
        clear h'
        go_enter Try.func54, Try.ntmps54
        go_wp2_with (go_at_call 64; refine (placed_any _ _ ha _).mono ?_; rintro e w' ⟨rfl, rfl⟩)
        go_ret
        exact ⟨rfl, rfl⟩
      · have h1 : (524288 : Int) < t := by omega
        clear h'
        go_enter Try.func54, Try.ntmps54
        go_wp2_with (go_at_call 64; refine (placed_any _ _ ha _).mono ?_; rintro e w' ⟨rfl, rfl⟩)
        go_ret
        exact ⟨rfl, rfl⟩
      · have h1 : (262144 : Int) < t := by omega
        clear h'
        go_enter Try.func54, Try.ntmps54
        go_wp2_with (go_at_call 64; refine (placed_any _ _ ha _).mono ?_; rintro e w' ⟨rfl, rfl⟩)
        go_ret
        exact ⟨rfl, rfl⟩
      · have h1 : (131072 : Int) < t := by omega
        clear h'
        go_enter Try.func54, Try.ntmps54
        go_wp2_with (go_at_call 64; refine (placed_any _ _ ha _).mono ?_; rintro e w' ⟨rfl, rfl⟩)
        go_ret
        exact ⟨rfl, rfl⟩
  · have hp' : plB a y = false := by simpa using hp
    clear hp h
    go_enter Try.func54, Try.ntmps54
    go_wp2_with (go_at_call 64; refine (placed_any _ _ ha _).mono ?_; rintro e w' ⟨rfl, rfl⟩)
    go_ret
    exact ⟨rfl, rfl⟩
set_option maxHeartbeats 1000000 in
theorem cfill_go (p : Value) (a n k t : Nat) (hk : k = 1 ∨ k = 2 ∨ k = 4 ∨ k = 8) (hd : a % k = 0) (ht : t ≤ 1048576 / k) (ha : a < 18446744073709551616) (hn : n < 18446744073709551616) (w : World) (Q : Int → World → Prop)
    (hc : ∀ w1 g N, N = k * t → Below w.heap.size w w1 → Own w1 g (M.rep (M.enc k n) t) → w.heap.size ≤ g → Calls Try.prog 22 #[p, .int .u64 a, .slice (some ⟨g, 0, none⟩) N N] w1 (ErrIs Q)) :
    Calls Try.prog 54 #[p, .int .u64 a, .int .i64 k, .int .u64 n, .int .i64 t] w (ErrIs Q) := by
  have HC := Lib.hid hc
  have hp := plB_nat hk hd
  clear hc hd
  rcases hk with rfl | rfl | rfl | rfl
  · have h1 : t ≤ 1048576 := by omega
    clear ht
    go_enter Try.func54, Try.ntmps54
    go_wp2_with fail
    refine (placed_any a 1 ha _).mono ?_
    rintro e w' ⟨rfl, rfl⟩
    go_wp2_with fail
    refine (bytes_one 1 (by omega) n w.heap.size (w.heap.size + 1) hn _ (by simp) (World.cell?_alloc_mark _ _ _ _ _)).mono ?_
    rintro e w1 ⟨rfl, o1, b1⟩
    have B1 := Lib.hid (below_call ((Below.refl w.heap.size w).alloc (Nat.le_refl _) _) b1)
    have O1 := Lib.hid o1
    clear o1 b1
    generalize w.heap.size + 1 = g1 at *
    go_wp2_with fail
    refine (repeat_any 1 (by omega) _ _ t _ (M.enc_length _ _) (by omega) _ O1.out.lies).mono ?_
    rintro e w2 ⟨g, N, rfl, hN, o2, b2, hg⟩
    have B2 := Lib.hid (show N = 1 * t ∧ Below w.heap.size w w2 ∧ Own w2 g _ ∧ w.heap.size ≤ g from ⟨hN, below_call B1.out b2, o2, Nat.le_trans B1.out.size hg⟩)
    clear hN o2 b2 hg B1 O1
    go_wp2_with fail
    refine (HC.out w2 g N B2.out.1 B2.out.2.1 B2.out.2.2.1 B2.out.2.2.2).mono ?_
    rintro e w3 ⟨err, rfl, hq⟩
    have HQ := Lib.hid hq
    clear hq B2
    go_wp2_with fail
    go_ret
    exact ⟨err, rfl, HQ.out⟩
  · have h1 : t ≤ 524288 := by omega
    clear ht
    go_enter Try.func54, Try.ntmps54
    go_wp2_with fail
    refine (placed_any a 2 ha _).mono ?_
    rintro e w' ⟨rfl, rfl⟩
    go_wp2_with fail
    refine (bytes_one 2 (by omega) n w.heap.size (w.heap.size + 1) hn _ (by simp) (World.cell?_alloc_mark _ _ _ _ _)).mono ?_
    rintro e w1 ⟨rfl, o1, b1⟩
    have B1 := Lib.hid (below_call ((Below.refl w.heap.size w).alloc (Nat.le_refl _) _) b1)
    have O1 := Lib.hid o1
    clear o1 b1
    generalize w.heap.size + 1 = g1 at *
    go_wp2_with fail
    refine (repeat_any 2 (by omega) _ _ t _ (M.enc_length _ _) (by omega) _ O1.out.lies).mono ?_
    rintro e w2 ⟨g, N, rfl, hN, o2, b2, hg⟩
    have B2 := Lib.hid (show N = 2 * t ∧ Below w.heap.size w w2 ∧ Own w2 g _ ∧ w.heap.size ≤ g from ⟨hN, below_call B1.out b2, o2, Nat.le_trans B1.out.size hg⟩)
    clear hN o2 b2 hg B1 O1
    go_wp2_with fail
    refine (HC.out w2 g N B2.out.1 B2.out.2.1 B2.out.2.2.1 B2.out.2.2.2).mono ?_
    rintro e w3 ⟨err, rfl, hq⟩
    have HQ := Lib.hid hq
    clear hq B2
    go_wp2_with fail
    go_ret
    exact ⟨err, rfl, HQ.out⟩
  · have h1 : t ≤ 262144 := by omega
    clear ht
    go_enter Try.func54, Try.ntmps54
    go_wp2_with fail
    refine (placed_any a 4 ha _).mono ?_
    rintro e w' ⟨rfl, rfl⟩
    go_wp2_with fail
    refine (bytes_one 4 (by omega) n w.heap.size (w.heap.size + 1) hn _ (by simp) (World.cell?_alloc_mark _ _ _ _ _)).mono ?_
    rintro e w1 ⟨rfl, o1, b1⟩
    have B1 := Lib.hid (below_call ((Below.refl w.heap.size w).alloc (Nat.le_refl _) _) b1)
    have O1 := Lib.hid o1
    clear o1 b1
    generalize w.heap.size + 1 = g1 at *
    go_wp2_with fail
    refine (repeat_any 4 (by omega) _ _ t _ (M.enc_length _ _) (by omega) _ O1.out.lies).mono ?_
    rintro e w2 ⟨g, N, rfl, hN, o2, b2, hg⟩
    have B2 := Lib.hid (show N = 4 * t ∧ Below w.heap.size w w2 ∧ Own w2 g _ ∧ w.heap.size ≤ g from ⟨hN, below_call B1.out b2, o2, Nat.le_trans B1.out.size hg⟩)
    clear hN o2 b2 hg B1 O1
    go_wp2_with fail
    refine (HC.out w2 g N B2.out.1 B2.out.2.1 B2.out.2.2.1 B2.out.2.2.2).mono ?_
    rintro e w3 ⟨err, rfl, hq⟩
    have HQ := Lib.hid hq
    clear hq B2
    go_wp2_with fail
    go_ret
    exact ⟨err, rfl, HQ.out⟩
  · have h1 : t ≤ 131072 := by omega
    clear ht
    go_enter Try.func54, Try.ntmps54
    go_wp2_with fail
    refine (placed_any a 8 ha _).mono ?_
    rintro e w' ⟨rfl, rfl⟩
    go_wp2_with fail
    refine (bytes_one 8 (by omega) n w.heap.size (w.heap.size + 1) hn _ (by simp) (World.cell?_alloc_mark _ _ _ _ _)).mono ?_
    rintro e w1 ⟨rfl, o1, b1⟩
    have B1 := Lib.hid (below_call ((Below.refl w.heap.size w).alloc (Nat.le_refl _) _) b1)
    have O1 := Lib.hid o1
    clear o1 b1
    generalize w.heap.size + 1 = g1 at *
    go_wp2_with fail
    refine (repeat_any 8 (by omega) _ _ t _ (M.enc_length _ _) (by omega) _ O1.out.lies).mono ?_
    rintro e w2 ⟨g, N, rfl, hN, o2, b2, hg⟩
    have B2 := Lib.hid (show N = 8 * t ∧ Below w.heap.size w w2 ∧ Own w2 g _ ∧ w.heap.size ≤ g from ⟨hN, below_call B1.out b2, o2, Nat.le_trans B1.out.size hg⟩)
    clear hN o2 b2 hg B1 O1
    go_wp2_with fail
    refine (HC.out w2 g N B2.out.1 B2.out.2.1 B2.out.2.2.1 B2.out.2.2.2).mono ?_
    rintro e w3 ⟨err, rfl, hq⟩
    have HQ := Lib.hid hq
    clear hq B2
    go_wp2_with fail
    go_ret
    exact ⟨err, rfl, HQ.out⟩
end Go.Proofs.Ytacognejefeboaa
