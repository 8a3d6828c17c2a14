/-
  What each function of package handle comes to.
-/
import Derived.Test.YtbkdlblpoohliaaM12
import Derived.Laws.Bits64b
namespace Go.Proofs.Ytbkdlblpoohliaa
open Go.ChangeShapes Go.WideShapes Go.ChangeAt Go.RowKit
set_option linter.unusedVariables false

theorem ret4 {a b c x y z : Int} {p q : Bool} (h1 : a = x) (h2 : b = y) (h3 : c = z) (h4 : p = q) : Ending.returned (.tuple #[.int .i64 a, .int .i64 b, .int .i64 c, .bool p]) = .returned (.tuple #[.int .i64 x, .int .i64 y, .int .i64 z, .bool q]) := by rw [h1, h2, h3, h4]
theorem hfits2 (n : Int) (w : World) :
    Calls Try.prog 44 #[.int .i64 n, .int .i64 2] w fun r w' => r = .returned (.bool (M.hfB n 2)) ∧ w = w' := by
  rw [M.hfB_2]
  by_cases h : 0 ≤ n
  · have z1 : decide (0 ≤ n) = true := decide_eq_true h
    go_enter Try.func44, Try.ntmps44
    go_wp2_with fail
    go_ret
    exact ⟨retB (by simp [h]), rfl⟩
  · have z1 : decide (0 ≤ n) = false := decide_eq_false h
    go_enter Try.func44, Try.ntmps44
    go_wp2_with fail
    go_ret
    exact ⟨retB (by simp), rfl⟩
theorem hfits2_at (n : Int) (b : Bool) (hb : M.hfB n 2 = b) (w : World) :
    Calls Try.prog 44 #[.int .i64 n, .int .i64 2] w fun r w' => r = .returned (.bool b) ∧ w = w' := by
  subst hb; exact hfits2 n w
theorem hfits32 (n : Int) (w : World) :
    Calls Try.prog 44 #[.int .i64 n, .int .i64 32] w fun r w' => r = .returned (.bool (M.hfB n 32)) ∧ w = w' := by
  rw [M.hfB_32]
  by_cases h : 0 ≤ n
  · have z1 : decide (0 ≤ n) = true := decide_eq_true h
    go_enter Try.func44, Try.ntmps44
    go_wp2_with fail
    go_ret
    exact ⟨retB (by simp [h]), rfl⟩
  · have z1 : decide (0 ≤ n) = false := decide_eq_false h
    go_enter Try.func44, Try.ntmps44
    go_wp2_with fail
    go_ret
    exact ⟨retB (by simp), rfl⟩
theorem hfits32_at (n : Int) (b : Bool) (hb : M.hfB n 32 = b) (w : World) :
    Calls Try.prog 44 #[.int .i64 n, .int .i64 32] w fun r w' => r = .returned (.bool b) ∧ w = w' := by
  subst hb; exact hfits32 n w
theorem hfits30 (n : Int) (w : World) :
    Calls Try.prog 44 #[.int .i64 n, .int .i64 30] w fun r w' => r = .returned (.bool (M.hfB n 30)) ∧ w = w' := by
  rw [M.hfB_30]
  by_cases h : 0 ≤ n
  · have z1 : decide (0 ≤ n) = true := decide_eq_true h
    go_enter Try.func44, Try.ntmps44
    go_wp2_with fail
    go_ret
    exact ⟨retB (by simp [h]), rfl⟩
  · have z1 : decide (0 ≤ n) = false := decide_eq_false h
    go_enter Try.func44, Try.ntmps44
    go_wp2_with fail
    go_ret
    exact ⟨retB (by simp), rfl⟩
theorem hfits30_at (n : Int) (b : Bool) (hb : M.hfB n 30 = b) (w : World) :
    Calls Try.prog 44 #[.int .i64 n, .int .i64 30] w fun r w' => r = .returned (.bool b) ∧ w = w' := by
  subst hb; exact hfits30 n w
theorem hpack_no (k s g : Int) (hk : -9223372036854775808 ≤ k) (hk' : k ≤ 9223372036854775807) (h : ¬ (1 ≤ k ∧ k ≤ 3 ∧ 0 ≤ s ∧ s < 4294967296 ∧ 0 ≤ g ∧ g < 1073741824)) (w : World) :
    Calls Try.prog 29 #[.int .i64 k, .int .i64 s, .int .i64 g] w fun r w' => r = .returned (.int .u64 0) ∧ w = w' := by
  by_cases h0 : k = 0
  · subst h0
    clear h
    go_enter Try.func29, Try.ntmps29
    go_wp2_with fail
    go_ret
    exact ⟨rfl, rfl⟩
  · have z0 : (k == 0) = false := by simpa using h0
    cases e2 : M.hfB k 2 with
    | false =>
      have F2 := Lib.hid e2; clear e2 h
      go_enter Try.func29, Try.ntmps29
      go_wp2_with fail
      refine (hfits2_at k false F2.out _).mono ?_
      rintro r w' ⟨rfl, rfl⟩
      go_wp2_with fail
      go_ret
      exact ⟨rfl, rfl⟩
    | true =>
      cases e32 : M.hfB s 32 with
      | false =>
        have F2 := Lib.hid e2; have F32 := Lib.hid e32; clear e2 e32 h
        go_enter Try.func29, Try.ntmps29
        go_wp2_with fail
        refine (hfits2_at k true F2.out _).mono ?_
        rintro r w' ⟨rfl, rfl⟩
        go_wp2_with fail
        refine (hfits32_at s false F32.out _).mono ?_
        rintro r w' ⟨rfl, rfl⟩
        go_wp2_with fail
        go_ret
        exact ⟨rfl, rfl⟩
      | true =>
        have e30 : M.hfB g 30 = false := by
          cases e : M.hfB g 30 with
          | false => rfl
          | true =>
            rw [M.hfB_iff2] at e2; rw [M.hfB_iff32] at e32; rw [M.hfB_iff30] at e
            exact absurd ⟨by omega, by omega, e32.1, e32.2, e.1, e.2⟩ h
        have F2 := Lib.hid e2; have F32 := Lib.hid e32; have F30 := Lib.hid e30; clear e2 e32 e30 h
        go_enter Try.func29, Try.ntmps29
        go_wp2_with fail
        refine (hfits2_at k true F2.out _).mono ?_
        rintro r w' ⟨rfl, rfl⟩
        go_wp2_with fail
        refine (hfits32_at s true F32.out _).mono ?_
        rintro r w' ⟨rfl, rfl⟩
        go_wp2_with fail
        refine (hfits30_at g false F30.out _).mono ?_
        rintro r w' ⟨rfl, rfl⟩
        go_wp2_with fail
        go_ret
        exact ⟨rfl, rfl⟩
theorem hpack_yes (k s g : Int) (h : 1 ≤ k ∧ k ≤ 3 ∧ 0 ≤ s ∧ s < 4294967296 ∧ 0 ≤ g ∧ g < 1073741824) (w : World) :
    Calls Try.prog 29 #[.int .i64 k, .int .i64 s, .int .i64 g] w fun r w' => r = .returned (.int .u64 (k * 4611686018427387904 + g * 4294967296 + s)) ∧ w = w' := by
  have e2 : M.hfB k 2 = true := (M.hfB_iff2 k).2 (by omega)
  have e32 : M.hfB s 32 = true := (M.hfB_iff32 s).2 (by omega)
  have e30 : M.hfB g 30 = true := (M.hfB_iff30 g).2 (by omega)
  have F2 := Lib.hid e2; have F32 := Lib.hid e32; have F30 := Lib.hid e30; clear e2 e32 e30
  have z0 : (k == 0) = false := by simp; omega
  obtain ⟨h1, h2, h3, h4, h5, h6⟩ := h
  go_enter Try.func29, Try.ntmps29
  go_wp2_with fail
  refine (hfits2_at k true F2.out _).mono ?_
  rintro r w' ⟨rfl, rfl⟩
  go_wp2_with fail
  refine (hfits32_at s true F32.out _).mono ?_
  rintro r w' ⟨rfl, rfl⟩
  go_wp2_with fail
  refine (hfits30_at g true F30.out _).mono ?_
  rintro r w' ⟨rfl, rfl⟩
  go_wp2_with fail
  go_ret
  exact ⟨ret1 (by omega), rfl⟩
theorem hpack_any (k s g : Int) (hk : -9223372036854775808 ≤ k) (hk' : k ≤ 9223372036854775807) (w : World) :
    Calls Try.prog 29 #[.int .i64 k, .int .i64 s, .int .i64 g] w fun r w' => r = .returned (.int .u64 (M.hpV k s g)) ∧ w = w' := by
  by_cases h : 1 ≤ k ∧ k ≤ 3 ∧ 0 ≤ s ∧ s < 4294967296 ∧ 0 ≤ g ∧ g < 1073741824
  · rw [M.hpV_yes _ _ _ h]; exact hpack_yes k s g h w
  · rw [M.hpV_no _ _ _ h]; exact hpack_no k s g hk hk' h w
theorem hpack_at {ik is ig : Int} (k s g p : Int) (e1 : ik = k) (e2 : is = s) (e3 : ig = g) (hk : -9223372036854775808 ≤ k) (hk' : k ≤ 9223372036854775807) (hp : M.hpV k s g = p) (w : World) :
    Calls Try.prog 29 #[.int .i64 ik, .int .i64 is, .int .i64 ig] w fun r w' => r = .returned (.int .u64 p) ∧ w = w' := by
  subst e1 e2 e3 hp; exact hpack_any ik is ig hk hk' w
theorem hnext_any (g : Int) (hk : -9223372036854775808 ≤ g) (hk' : g ≤ 9223372036854775807) (w : World) :
    Calls Try.prog 40 #[.int .i64 g] w fun r w' => r = .returned (.int .i64 (M.hnV g)) ∧ w = w' := by
  cases e1 : M.hfB g 30 with
  | false =>
    have e : M.hnV g = 0 := M.hnV_no g (fun h => by have := (M.hfB_iff30 g).2 (by omega); rw [this] at e1; cases e1)
    rw [e]; clear e
    have F1 := Lib.hid e1; clear e1
    go_enter Try.func40, Try.ntmps40
    go_wp2_with fail
    refine (hfits30_at g false F1.out _).mono ?_
    rintro r w' ⟨rfl, rfl⟩
    go_wp2_with fail
    go_ret
    exact ⟨rfl, rfl⟩
  | true =>
    have h1 := (M.hfB_iff30 g).1 e1
    have F1 := Lib.hid e1; clear e1
    cases e2 : M.hfB (g + 1) 30 with
    | false =>
      have e : M.hnV g = 0 := M.hnV_no g (fun h => by have := (M.hfB_iff30 (g + 1)).2 (by omega); rw [this] at e2; cases e2)
      rw [e]; clear e
      have F2 := Lib.hid e2; clear e2
      go_enter Try.func40, Try.ntmps40
      go_wp2_with fail
      refine (hfits30_at g true F1.out _).mono ?_
      rintro r w' ⟨rfl, rfl⟩
      go_wp2_with fail
      refine (hfits30_at (g + 1) false F2.out _).mono ?_
      rintro r w' ⟨rfl, rfl⟩
      go_wp2_with fail
      go_ret
      exact ⟨rfl, rfl⟩
    | true =>
      have h2 := (M.hfB_iff30 (g + 1)).1 e2
      rw [M.hnV_yes g (by omega)]
      have F2 := Lib.hid e2; clear e2
      go_enter Try.func40, Try.ntmps40
      go_wp2_with fail
      refine (hfits30_at g true F1.out _).mono ?_
      rintro r w' ⟨rfl, rfl⟩
      go_wp2_with fail
      refine (hfits30_at (g + 1) true F2.out _).mono ?_
      rintro r w' ⟨rfl, rfl⟩
      go_wp2_with fail
      go_ret
      exact ⟨ret1 (by omega), rfl⟩
theorem hnext_at {ig : Int} (g n : Int) (e : ig = g) (hk : -9223372036854775808 ≤ g) (hk' : g ≤ 9223372036854775807) (hn : M.hnV g = n) (w : World) :
    Calls Try.prog 40 #[.int .i64 ig] w fun r w' => r = .returned (.int .i64 n) ∧ w = w' := by
  subst e hn; exact hnext_any ig hk hk' w
theorem hand2 (x : Nat) (hx : x < 18446744073709551616) : wrap64 (bits .and .u64 (x : Int) 3) = ((x % 4 : Nat) : Int) := by
  rw [show (3 : Int) = ((3 : Nat) : Int) from rfl, bits_and_u64_nat x 3 hx (by decide), show x &&& 3 = x % 4 from Nat.and_two_pow_sub_one_eq_mod x 2]
  refine IntWalk.wrap64_in (((x % 4 : Nat)) : Int) ⟨by omega, by omega⟩
theorem hand32 (x : Nat) (hx : x < 18446744073709551616) : wrap64 (bits .and .u64 (x : Int) 4294967295) = ((x % 4294967296 : Nat) : Int) := by
  rw [show (4294967295 : Int) = ((4294967295 : Nat) : Int) from rfl, bits_and_u64_nat x 4294967295 hx (by decide), show x &&& 4294967295 = x % 4294967296 from Nat.and_two_pow_sub_one_eq_mod x 32]
  refine IntWalk.wrap64_in (((x % 4294967296 : Nat)) : Int) ⟨by omega, by omega⟩
theorem hand30 (x : Nat) (hx : x < 18446744073709551616) : wrap64 (bits .and .u64 (x : Int) 1073741823) = ((x % 1073741824 : Nat) : Int) := by
  rw [show (1073741823 : Int) = ((1073741823 : Nat) : Int) from rfl, bits_and_u64_nat x 1073741823 hx (by decide), show x &&& 1073741823 = x % 1073741824 from Nat.and_two_pow_sub_one_eq_mod x 30]
  refine IntWalk.wrap64_in (((x % 1073741824 : Nat)) : Int) ⟨by omega, by omega⟩
theorem hcut62 (h : Nat) (hh : h < 18446744073709551616) (w : World) (b : Nat) (hc : w.cell? ⟨b, 0, none⟩ = some (.int .u64 h)) :
    Calls Try.prog 43 #[.int .i64 62, .int .i64 2, .pointer (some ⟨b, 0, none⟩)] w fun r w' => r = .returned (.int .i64 (h / 4611686018427387904 % 4 : Nat)) ∧ ∃ m, w' = w.drewN m := by
  go_enter Try.func43, Try.ntmps43
  go_wp2
  go_quiet (fail)
  go_wp2
  go_ret
  exact ⟨ret1 (hand2 (h / 4611686018427387904) (by omega)), _, rfl⟩
theorem hcut0 (h : Nat) (hh : h < 18446744073709551616) (w : World) (b : Nat) (hc : w.cell? ⟨b, 0, none⟩ = some (.int .u64 h)) :
    Calls Try.prog 43 #[.int .i64 0, .int .i64 32, .pointer (some ⟨b, 0, none⟩)] w fun r w' => r = .returned (.int .i64 (h % 4294967296 : Nat)) ∧ ∃ m, w' = w.drewN m := by
  go_enter Try.func43, Try.ntmps43
  go_wp2
  go_quiet (fail)
  go_wp2
  go_ret
  exact ⟨ret1 (hand32 (h) (by omega)), _, rfl⟩
theorem hcut32 (h : Nat) (hh : h < 18446744073709551616) (w : World) (b : Nat) (hc : w.cell? ⟨b, 0, none⟩ = some (.int .u64 h)) :
    Calls Try.prog 43 #[.int .i64 32, .int .i64 30, .pointer (some ⟨b, 0, none⟩)] w fun r w' => r = .returned (.int .i64 (h / 4294967296 % 1073741824 : Nat)) ∧ ∃ m, w' = w.drewN m := by
  go_enter Try.func43, Try.ntmps43
  go_wp2
  go_quiet (fail)
  go_wp2
  go_ret
  exact ⟨ret1 (hand30 (h / 4294967296) (by omega)), _, rfl⟩
theorem hcut62_at (h u : Nat) (hu : h / 4611686018427387904 = u) (hh : h < 18446744073709551616) (w : World) (b : Nat) (hc : w.cell? ⟨b, 0, none⟩ = some (.int .u64 h)) :
    Calls Try.prog 43 #[.int .i64 62, .int .i64 2, .pointer (some ⟨b, 0, none⟩)] w fun r w' => r = .returned (.int .i64 u) ∧ ∃ m, w' = w.drewN m := by
  have e : h / 4611686018427387904 % 4 = u := by omega
  rw [← e]; exact hcut62 h hh w b hc
theorem hunpack_any (h : Nat) (hh : h < 18446744073709551616) (w : World) :
    Calls Try.prog 28 #[.int .u64 h] w fun r w' => r = .returned (.tuple #[.int .i64 (M.huK h : Nat), .int .i64 (M.huS h : Nat), .int .i64 (M.huG h : Nat), .bool (M.huB h)]) ∧ Below w.heap.size w w' := by
  have HB := Lib.hid (fun (o1 : Obj) (n1 : Nat) => below_drewN' ((Below.refl w.heap.size w).alloc (Nat.le_refl _) o1) n1)
  by_cases hk : 4611686018427387904 ≤ h
  · have hb : M.huB h = true := decide_eq_true hk
    have eS : M.huS h = h % 4294967296 := if_pos hb
    have eG : M.huG h = h / 4294967296 % 1073741824 := if_pos hb
    obtain ⟨u, hu⟩ : ∃ u, h / 4611686018427387904 = u := ⟨_, rfl⟩
    rw [hb, eS, eG, show M.huK h = u from hu]
    have z0 : ((u : Int) == 0) = false := by simp; omega
    have HU := Lib.hid hu
    clear hb eS eG hu
    go_enter Try.func28, Try.ntmps28
    go_wp2_with fail
    refine (hcut62_at h u HU.out hh _ _ (by simp [go_sem])).mono ?_
    rintro r w1 ⟨rfl, m1, rfl⟩
    go_wp2_with fail
    refine (hcut0 h hh _ _ (by simp [go_sem])).mono ?_
    rintro r w1 ⟨rfl, m2, rfl⟩
    go_wp2_with fail
    refine (hcut32 h hh _ _ (by simp [go_sem])).mono ?_
    rintro r w1 ⟨rfl, m3, rfl⟩
    go_wp2_with fail
    refine bodyPost_ret (v := .tuple #[.int .i64 u, .int .i64 (h % 4294967296 : Nat), .int .i64 (h / 4294967296 % 1073741824 : Nat), .bool true]) ?_ rfl ?_
    · simp [results, go_sem]
    · exact ⟨rfl, HB.out _ _⟩
  · have hb : M.huB h = false := decide_eq_false hk
    have eS : M.huS h = 0 := if_neg (by simp [hb])
    have eG : M.huG h = 0 := if_neg (by simp [hb])
    rw [hb, eS, eG, show M.huK h = 0 from by unfold M.huK; omega]
    clear hb eS eG
    go_enter Try.func28, Try.ntmps28
    go_wp2_with fail
    refine (hcut62_at h 0 (by omega) hh _ _ (by simp [go_sem])).mono ?_
    rintro r w1 ⟨rfl, m1, rfl⟩
    go_wp2_with fail
    refine bodyPost_ret (v := .tuple #[.int .i64 0, .int .i64 0, .int .i64 0, .bool false]) ?_ rfl ?_
    · simp [results, go_sem]
    · exact ⟨rfl, HB.out _ _⟩
theorem hunpack_at {ih : Int} (h k s g : Nat) (b : Bool) (e : ih = h) (hh : h < 18446744073709551616) (hk : M.huK h = k) (hs : M.huS h = s) (hg : M.huG h = g) (hb : M.huB h = b) (w : World) :
    Calls Try.prog 28 #[.int .u64 ih] w fun r w' => r = .returned (.tuple #[.int .i64 k, .int .i64 s, .int .i64 g, .bool b]) ∧ Below w.heap.size w w' := by
  subst e hk hs hg hb; exact hunpack_any h hh w
end Go.Proofs.Ytbkdlblpoohliaa
