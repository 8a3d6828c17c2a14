/-
  CellsBack is true whatever the input: what is put is got, where it fits, and of two halves of a number each is where it belongs; no conditions.
-/
import Derived.Test.YtpcahaihlcaabaaRows
import Derived.WalkKit
import Derived.ProofKit
import Derived.OpenShut
import Derived.ShutString
import Derived.ChangeOld
import Derived.Below
import Derived.Test.YtpcahaihlcaabaaEx4
namespace Go.Proofs.Ytpcahaihlcaabaa.cellsBack
open Go.ChangeShapes Go.WideShapes Go.ChangeAt Go.RowKit
set_option linter.unusedVariables false

theorem own : ownKnob Try.prog.godebug = none := by kernel_rfl

theorem half_lo (f : Nat → UInt8) (a k n : Nat) : M.num (M.rd (M.wr f a (M.enc (k + k) n)) a k) = n % 256 ^ k := by
  rw [M.enc_add, M.wr_append, M.rd_wr_apart _ _ _ _ _ (Or.inl (by rw [M.enc_length]; omega)), num_wr]
theorem half_hi (f : Nat → UInt8) (a k n : Nat) : M.num (M.rd (M.wr f a (M.enc (k + k) n)) (a + k) k) = n / 256 ^ k % 256 ^ k := by
  rw [M.enc_add, M.wr_append, M.enc_length, num_wr]

/-! The walk. -/
set_option maxRecDepth 20000 in
set_option maxHeartbeats 2000000 in
theorem walk (a0 : Int) (a1 : Int) (a2 : Int) (w : World) (w0 : (Lit.int .u16 a0).wf = true) (w1 : (Lit.int .u8 a1).wf = true) (w2 : (Lit.int .u64 a2).wf = true) :
    Calls Try.prog 4 #[.int .u16 a0, .int .u8 a1, .int .u64 a2] w fun e w' => e = .returned (.bool true) ∧ Below w.heap.size w w' := by
  obtain ⟨at', hat, rfl⟩ := u16_nat w0
  obtain ⟨kk, hkk, rfl⟩ := u8_nat w1
  obtain ⟨n, hn, rfl⟩ := u64_nat w2
  clear w0 w1 w2
  obtain ⟨a, ha⟩ : ∃ a, a = at' / 8 * 8 := ⟨_, rfl⟩
  have hA : (at' : Int) / 8 * 8 = (a : Int) := by omega
  have ha8 : a % 8 = 0 := by omega
  have ha9 : a < 65536 := by omega
  clear ha
  rcases (show kk % 4 = 0 ∨ kk % 4 = 1 ∨ kk % 4 = 2 ∨ kk % 4 = 3 by omega) with hr | hr | hr | hr
  · have hm : (kk : Int) % 4 = 0 := by omega
    clear hr
    obtain ⟨v, hv⟩ : ∃ v, v = n % 256 ^ 1 := ⟨_, rfl⟩
    have hnum : M.num (M.rd (M.wr (fun _ => 0) a (M.enc 1 n)) a 1) = v := by rw [num_wr, hv]
    simp only [Nat.reducePow] at hv
    have HV := Lib.hid hv
    have HN := Lib.hid hnum
    clear hnum
    by_cases hf : n < 256
    · have hfb : fitsB n 1 = true := by simp [fitsB, M.wide]; omega
      have q1 : ((v : Int) == (n : Int)) = true := by simp; omega
      have q2 : (v == n) = true := by simp; omega
      have q3 : ((v : Int) == (n : Int) % 256) = true := by simp; omega
      have HQ := Lib.hid (And.intro hfb (And.intro q1 q2))
      clear hf hv hfb
      go_enter Try.func4, Try.ntmps4
      go_wp2_with fail
      refine (awake_any _).mono ?_
      rintro e w1 ⟨rfl, b1⟩
      have B1 := Lib.hid b1
      clear b1
      go_wp2_with fail
      refine (at_new (w0 := w) B1.out _ 32 (by decide)).mono ?_
      rintro e w2 ⟨s, O2, rfl, A2⟩
      have H2 := Lib.hid A2
      clear A2
      go_wp2_with fail
      refine (at_put H2.out a 1 n (by omega) (by omega) (by omega) hn (by omega)).mono ?_
      rintro e w3 ⟨rfl, A3, _⟩
      have H3 := Lib.hid A3
      clear A3 H2
      go_wp2_with fail
      refine (at_get H3.out a 1 (by omega) (by omega) (by omega) (by omega)).mono ?_
      rw [HN.out]
      rintro e w4 ⟨rfl, A4, _⟩
      have H4 := Lib.hid A4
      clear A4 H3
      go_wp2_with fail
      refine (fits_any n 1 hn _).mono ?_
      rw [show fitsB n 1 = true from HQ.out.1]
      rintro e w' ⟨rfl, rfl⟩
      go_wp2_with fail
      go_ret
      exact ⟨rfl, H4.out.bel⟩
    · have hfb : fitsB n 1 = false := by simp [fitsB, M.wide]; omega
      have q1 : ((v : Int) == (n : Int)) = false := by simp; omega
      have q2 : (v == n) = false := by simp; omega
      have q3 : ((v : Int) == (n : Int) % 256) = true := by simp; omega
      have HQ := Lib.hid (And.intro hfb (And.intro q1 q2))
      clear hf hv hfb
      go_enter Try.func4, Try.ntmps4
      go_wp2_with fail
      refine (awake_any _).mono ?_
      rintro e w1 ⟨rfl, b1⟩
      have B1 := Lib.hid b1
      clear b1
      go_wp2_with fail
      refine (at_new (w0 := w) B1.out _ 32 (by decide)).mono ?_
      rintro e w2 ⟨s, O2, rfl, A2⟩
      have H2 := Lib.hid A2
      clear A2
      go_wp2_with fail
      refine (at_put H2.out a 1 n (by omega) (by omega) (by omega) hn (by omega)).mono ?_
      rintro e w3 ⟨rfl, A3, _⟩
      have H3 := Lib.hid A3
      clear A3 H2
      go_wp2_with fail
      refine (at_get H3.out a 1 (by omega) (by omega) (by omega) (by omega)).mono ?_
      rw [HN.out]
      rintro e w4 ⟨rfl, A4, _⟩
      have H4 := Lib.hid A4
      clear A4 H3
      go_wp2_with fail
      refine (fits_any n 1 hn _).mono ?_
      rw [show fitsB n 1 = false from HQ.out.1]
      rintro e w' ⟨rfl, rfl⟩
      go_wp2_with fail
      go_ret
      exact ⟨rfl, H4.out.bel⟩
  · have hm : (kk : Int) % 4 = 1 := by omega
    clear hr
    obtain ⟨v, hv⟩ : ∃ v, v = n % 256 ^ 2 := ⟨_, rfl⟩
    have hnum : M.num (M.rd (M.wr (fun _ => 0) a (M.enc 2 n)) a 2) = v := by rw [num_wr, hv]
    simp only [Nat.reducePow] at hv
    obtain ⟨lo, hlo⟩ : ∃ v, v = n % 256 ^ 1 := ⟨_, rfl⟩
    obtain ⟨hi, hhi⟩ : ∃ v, v = n / 256 ^ 1 % 256 ^ 1 := ⟨_, rfl⟩
    have hnlo : M.num (M.rd (M.wr (fun _ => 0) a (M.enc 2 n)) a 1) = lo := by rw [hlo]; exact half_lo _ a 1 n
    have hnhi : M.num (M.rd (M.wr (fun _ => 0) a (M.enc 2 n)) (a + 1) 1) = hi := by rw [hhi]; exact half_hi _ a 1 n
    simp only [Nat.reducePow] at hlo hhi
    have HV := Lib.hid (And.intro hv (And.intro hlo hhi))
    have HN := Lib.hid (And.intro hnum (And.intro hnlo hnhi))
    clear hnlo hnhi hlo hhi
    clear hnum
    by_cases hf : n < 65536
    · have hfb : fitsB n 2 = true := by simp [fitsB, M.wide]; omega
      have q1 : ((v : Int) == (n : Int)) = true := by simp; omega
      have q2 : (v == n) = true := by simp; omega
      have HQ := Lib.hid (And.intro hfb (And.intro q1 q2))
      clear hf hv hfb
      go_enter Try.func4, Try.ntmps4
      go_wp2_with fail
      refine (awake_any _).mono ?_
      rintro e w1 ⟨rfl, b1⟩
      have B1 := Lib.hid b1
      clear b1
      go_wp2_with fail
      refine (at_new (w0 := w) B1.out _ 32 (by decide)).mono ?_
      rintro e w2 ⟨s, O2, rfl, A2⟩
      have H2 := Lib.hid A2
      clear A2
      go_wp2_with fail
      refine (at_put H2.out a 2 n (by omega) (by omega) (by omega) hn (by omega)).mono ?_
      rintro e w3 ⟨rfl, A3, _⟩
      have H3 := Lib.hid A3
      clear A3 H2
      go_wp2_with fail
      refine (at_get H3.out a 2 (by omega) (by omega) (by omega) (by omega)).mono ?_
      rw [HN.out.1]
      rintro e w4 ⟨rfl, A4, _⟩
      have H4 := Lib.hid A4
      clear A4 H3
      go_wp2_with fail
      refine (fits_any n 2 hn _).mono ?_
      rw [show fitsB n 2 = true from HQ.out.1]
      rintro e w' ⟨rfl, rfl⟩
      go_wp2_with fail
      refine (at_get H4.out a 1 (by omega) (by omega) (by omega) (by omega)).mono ?_
      rw [HN.out.2.1]
      rintro e w5 ⟨rfl, A5, _⟩
      have H5 := Lib.hid A5
      clear A5 H4
      go_wp2_with fail
      refine (at_get H5.out (a + 1) 1 (by omega) (by omega) (by omega) (by omega)).mono ?_
      rw [HN.out.2.2]
      rintro e w6 ⟨rfl, A6, _⟩
      have H6 := Lib.hid A6
      clear A6 H5 q1 q2
      go_wp2_with fail
      go_ret
      refine ⟨retB ?_, H6.out.bel⟩
      have := HV.out
      simp [wrapU]
      omega
    · have hfb : fitsB n 2 = false := by simp [fitsB, M.wide]; omega
      have q1 : ((v : Int) == (n : Int)) = false := by simp; omega
      have q2 : (v == n) = false := by simp; omega
      have HQ := Lib.hid (And.intro hfb (And.intro q1 q2))
      clear hf hv hfb
      go_enter Try.func4, Try.ntmps4
      go_wp2_with fail
      refine (awake_any _).mono ?_
      rintro e w1 ⟨rfl, b1⟩
      have B1 := Lib.hid b1
      clear b1
      go_wp2_with fail
      refine (at_new (w0 := w) B1.out _ 32 (by decide)).mono ?_
      rintro e w2 ⟨s, O2, rfl, A2⟩
      have H2 := Lib.hid A2
      clear A2
      go_wp2_with fail
      refine (at_put H2.out a 2 n (by omega) (by omega) (by omega) hn (by omega)).mono ?_
      rintro e w3 ⟨rfl, A3, _⟩
      have H3 := Lib.hid A3
      clear A3 H2
      go_wp2_with fail
      refine (at_get H3.out a 2 (by omega) (by omega) (by omega) (by omega)).mono ?_
      rw [HN.out.1]
      rintro e w4 ⟨rfl, A4, _⟩
      have H4 := Lib.hid A4
      clear A4 H3
      go_wp2_with fail
      refine (fits_any n 2 hn _).mono ?_
      rw [show fitsB n 2 = false from HQ.out.1]
      rintro e w' ⟨rfl, rfl⟩
      go_wp2_with fail
      refine (at_get H4.out a 1 (by omega) (by omega) (by omega) (by omega)).mono ?_
      rw [HN.out.2.1]
      rintro e w5 ⟨rfl, A5, _⟩
      have H5 := Lib.hid A5
      clear A5 H4
      go_wp2_with fail
      refine (at_get H5.out (a + 1) 1 (by omega) (by omega) (by omega) (by omega)).mono ?_
      rw [HN.out.2.2]
      rintro e w6 ⟨rfl, A6, _⟩
      have H6 := Lib.hid A6
      clear A6 H5 q1 q2
      go_wp2_with fail
      go_ret
      refine ⟨retB ?_, H6.out.bel⟩
      have := HV.out
      simp [wrapU]
      omega
  · have hm : (kk : Int) % 4 = 2 := by omega
    clear hr
    obtain ⟨v, hv⟩ : ∃ v, v = n % 256 ^ 4 := ⟨_, rfl⟩
    have hnum : M.num (M.rd (M.wr (fun _ => 0) a (M.enc 4 n)) a 4) = v := by rw [num_wr, hv]
    simp only [Nat.reducePow] at hv
    obtain ⟨lo, hlo⟩ : ∃ v, v = n % 256 ^ 2 := ⟨_, rfl⟩
    obtain ⟨hi, hhi⟩ : ∃ v, v = n / 256 ^ 2 % 256 ^ 2 := ⟨_, rfl⟩
    have hnlo : M.num (M.rd (M.wr (fun _ => 0) a (M.enc 4 n)) a 2) = lo := by rw [hlo]; exact half_lo _ a 2 n
    have hnhi : M.num (M.rd (M.wr (fun _ => 0) a (M.enc 4 n)) (a + 2) 2) = hi := by rw [hhi]; exact half_hi _ a 2 n
    simp only [Nat.reducePow] at hlo hhi
    have HV := Lib.hid (And.intro hv (And.intro hlo hhi))
    have HN := Lib.hid (And.intro hnum (And.intro hnlo hnhi))
    clear hnlo hnhi hlo hhi
    clear hnum
    by_cases hf : n < 4294967296
    · have hfb : fitsB n 4 = true := by simp [fitsB, M.wide]; omega
      have q1 : ((v : Int) == (n : Int)) = true := by simp; omega
      have q2 : (v == n) = true := by simp; omega
      have HQ := Lib.hid (And.intro hfb (And.intro q1 q2))
      clear hf hv hfb
      go_enter Try.func4, Try.ntmps4
      go_wp2_with fail
      refine (awake_any _).mono ?_
      rintro e w1 ⟨rfl, b1⟩
      have B1 := Lib.hid b1
      clear b1
      go_wp2_with fail
      refine (at_new (w0 := w) B1.out _ 32 (by decide)).mono ?_
      rintro e w2 ⟨s, O2, rfl, A2⟩
      have H2 := Lib.hid A2
      clear A2
      go_wp2_with fail
      refine (at_put H2.out a 4 n (by omega) (by omega) (by omega) hn (by omega)).mono ?_
      rintro e w3 ⟨rfl, A3, _⟩
      have H3 := Lib.hid A3
      clear A3 H2
      go_wp2_with fail
      refine (at_get H3.out a 4 (by omega) (by omega) (by omega) (by omega)).mono ?_
      rw [HN.out.1]
      rintro e w4 ⟨rfl, A4, _⟩
      have H4 := Lib.hid A4
      clear A4 H3
      go_wp2_with fail
      refine (fits_any n 4 hn _).mono ?_
      rw [show fitsB n 4 = true from HQ.out.1]
      rintro e w' ⟨rfl, rfl⟩
      go_wp2_with fail
      refine (at_get H4.out a 2 (by omega) (by omega) (by omega) (by omega)).mono ?_
      rw [HN.out.2.1]
      rintro e w5 ⟨rfl, A5, _⟩
      have H5 := Lib.hid A5
      clear A5 H4
      go_wp2_with fail
      refine (at_get H5.out (a + 2) 2 (by omega) (by omega) (by omega) (by omega)).mono ?_
      rw [HN.out.2.2]
      rintro e w6 ⟨rfl, A6, _⟩
      have H6 := Lib.hid A6
      clear A6 H5 q1 q2
      go_wp2_with fail
      go_ret
      refine ⟨retB ?_, H6.out.bel⟩
      have := HV.out
      simp [wrapU]
      omega
    · have hfb : fitsB n 4 = false := by simp [fitsB, M.wide]; omega
      have q1 : ((v : Int) == (n : Int)) = false := by simp; omega
      have q2 : (v == n) = false := by simp; omega
      have HQ := Lib.hid (And.intro hfb (And.intro q1 q2))
      clear hf hv hfb
      go_enter Try.func4, Try.ntmps4
      go_wp2_with fail
      refine (awake_any _).mono ?_
      rintro e w1 ⟨rfl, b1⟩
      have B1 := Lib.hid b1
      clear b1
      go_wp2_with fail
      refine (at_new (w0 := w) B1.out _ 32 (by decide)).mono ?_
      rintro e w2 ⟨s, O2, rfl, A2⟩
      have H2 := Lib.hid A2
      clear A2
      go_wp2_with fail
      refine (at_put H2.out a 4 n (by omega) (by omega) (by omega) hn (by omega)).mono ?_
      rintro e w3 ⟨rfl, A3, _⟩
      have H3 := Lib.hid A3
      clear A3 H2
      go_wp2_with fail
      refine (at_get H3.out a 4 (by omega) (by omega) (by omega) (by omega)).mono ?_
      rw [HN.out.1]
      rintro e w4 ⟨rfl, A4, _⟩
      have H4 := Lib.hid A4
      clear A4 H3
      go_wp2_with fail
      refine (fits_any n 4 hn _).mono ?_
      rw [show fitsB n 4 = false from HQ.out.1]
      rintro e w' ⟨rfl, rfl⟩
      go_wp2_with fail
      refine (at_get H4.out a 2 (by omega) (by omega) (by omega) (by omega)).mono ?_
      rw [HN.out.2.1]
      rintro e w5 ⟨rfl, A5, _⟩
      have H5 := Lib.hid A5
      clear A5 H4
      go_wp2_with fail
      refine (at_get H5.out (a + 2) 2 (by omega) (by omega) (by omega) (by omega)).mono ?_
      rw [HN.out.2.2]
      rintro e w6 ⟨rfl, A6, _⟩
      have H6 := Lib.hid A6
      clear A6 H5 q1 q2
      go_wp2_with fail
      go_ret
      refine ⟨retB ?_, H6.out.bel⟩
      have := HV.out
      simp [wrapU]
      omega
  · have hm : (kk : Int) % 4 = 3 := by omega
    clear hr
    obtain ⟨v, hv⟩ : ∃ v, v = n % 256 ^ 8 := ⟨_, rfl⟩
    have hnum : M.num (M.rd (M.wr (fun _ => 0) a (M.enc 8 n)) a 8) = v := by rw [num_wr, hv]
    simp only [Nat.reducePow] at hv
    obtain ⟨lo, hlo⟩ : ∃ v, v = n % 256 ^ 4 := ⟨_, rfl⟩
    obtain ⟨hi, hhi⟩ : ∃ v, v = n / 256 ^ 4 % 256 ^ 4 := ⟨_, rfl⟩
    have hnlo : M.num (M.rd (M.wr (fun _ => 0) a (M.enc 8 n)) a 4) = lo := by rw [hlo]; exact half_lo _ a 4 n
    have hnhi : M.num (M.rd (M.wr (fun _ => 0) a (M.enc 8 n)) (a + 4) 4) = hi := by rw [hhi]; exact half_hi _ a 4 n
    simp only [Nat.reducePow] at hlo hhi
    have HV := Lib.hid (And.intro hv (And.intro hlo hhi))
    have HN := Lib.hid (And.intro hnum (And.intro hnlo hnhi))
    clear hnlo hnhi hlo hhi
    clear hnum
    by_cases hf : n < 18446744073709551616
    · have hfb : fitsB n 8 = true := by simp [fitsB, M.wide]; omega
      have q1 : ((v : Int) == (n : Int)) = true := by simp; omega
      have q2 : (v == n) = true := by simp; omega
      have HQ := Lib.hid (And.intro hfb (And.intro q1 q2))
      clear hf hv hfb
      go_enter Try.func4, Try.ntmps4
      go_wp2_with fail
      refine (awake_any _).mono ?_
      rintro e w1 ⟨rfl, b1⟩
      have B1 := Lib.hid b1
      clear b1
      go_wp2_with fail
      refine (at_new (w0 := w) B1.out _ 32 (by decide)).mono ?_
      rintro e w2 ⟨s, O2, rfl, A2⟩
      have H2 := Lib.hid A2
      clear A2
      go_wp2_with fail
      refine (at_put H2.out a 8 n (by omega) (by omega) (by omega) hn (by omega)).mono ?_
      rintro e w3 ⟨rfl, A3, _⟩
      have H3 := Lib.hid A3
      clear A3 H2
      go_wp2_with fail
      refine (at_get H3.out a 8 (by omega) (by omega) (by omega) (by omega)).mono ?_
      rw [HN.out.1]
      rintro e w4 ⟨rfl, A4, _⟩
      have H4 := Lib.hid A4
      clear A4 H3
      go_wp2_with fail
      refine (fits_any n 8 hn _).mono ?_
      rw [show fitsB n 8 = true from HQ.out.1]
      rintro e w' ⟨rfl, rfl⟩
      go_wp2_with fail
      refine (at_get H4.out a 4 (by omega) (by omega) (by omega) (by omega)).mono ?_
      rw [HN.out.2.1]
      rintro e w5 ⟨rfl, A5, _⟩
      have H5 := Lib.hid A5
      clear A5 H4
      go_wp2_with fail
      refine (at_get H5.out (a + 4) 4 (by omega) (by omega) (by omega) (by omega)).mono ?_
      rw [HN.out.2.2]
      rintro e w6 ⟨rfl, A6, _⟩
      have H6 := Lib.hid A6
      clear A6 H5 q1 q2
      go_wp2_with fail
      go_ret
      refine ⟨retB ?_, H6.out.bel⟩
      have := HV.out
      simp [wrapU]
      omega
    · exact absurd hn hf

/-! The row's step. -/
set_option maxRecDepth 100000 in
theorem lifted (os : Os) (started : os.Started) (H : Type) (enc : TypeId × Value → H) :
    ReturnsInHanded {} Try.checked os 4 .any (Rows.cellsBackSpec.pre6 enc Try.prog Try.f4 Rows.cellsBackRow.domain false) (Rows.cellsBackSpec.post enc Try.prog Try.f4 false true false false) := by
  refine returnsInHanded_of_change (C := Try.checked) own started (by kernel_rfl) Try.func4
    (ChangeSpec.witness6 (enc := enc) (C := Try.checked) false ⟨#[], #[.int .u16 0, .int .u8 0, .int .u64 0], []⟩ 8 (by kernel_rfl) (by kernel_rfl) (by kernel_rfl) (by kernel_rfl)) ?_
  intro W base args ds gs before hval0 hW hcnd _
  have hval : ∀ (j : Nat) t v, Try.f4.params[j]? = some t → args[j]? = some v → Value.okWide Try.prog W .any base t v := hval0
  have hW' := hW
  obtain ⟨p, q, hA0, hV, rfl, hfz, hnd⟩ := hW
  have hA : DataW.TrodAll enc Try.prog W 0 (fun _ => true) true Try.f4.params.toList args.toList ds p := hA0
  rw [Try.params4] at hA hval
  obtain ⟨v0, vs0, d0, ds0, p0, q0, hargs, rfl, rfl, h0, r0⟩ := trodAll_cons hA
  obtain ⟨v1, vs1, d1, ds1, p1, q1, rfl, rfl, rfl, h1, r1⟩ := trodAll_cons r0
  obtain ⟨v2, vs2, d2, ds2, p2, q2, rfl, rfl, rfl, h2, r2⟩ := trodAll_cons r1
  obtain ⟨rfl, rfl, rfl⟩ := trodAll_nil r2
  obtain rfl : args = #[v0, v1, v2] := by cases args; simp_all
  obtain ⟨rfl, rfl⟩ := trodVars_none hV
  obtain ⟨a0, rfl, rfl, rfl, w0⟩ := open_int Try.underlying48 (hval 0 48 v0 rfl rfl) h0
  obtain ⟨a1, rfl, rfl, rfl, w1⟩ := open_int Try.underlying5 (hval 1 5 v1 rfl rfl) h1
  obtain ⟨a2, rfl, rfl, rfl, w2⟩ := open_int Try.underlying31 (hval 2 31 v2 rfl rfl) h2
  clear hA0 hval0
  refine (walk a0 a1 a2 W w0 w1 w2).mono fun e W' ⟨he, bel⟩ => ?_
  subst he
  exact ⟨_, rfl, _, _, _, [], _, [], hW', trodAll_mk1 (shut_bool Try.underlying4 _), (trodAll_cons_mk (shut_int Try.underlying48 w0) (trodAll_cons_mk (shut_int Try.underlying5 w1) (trodAll_cons_mk (shut_int Try.underlying31 w2) trodAll_mk0))), rfl, bel.frame _, fun h => by cases h⟩

theorem over : Rows.cellsBackRow.holds Try.pinned (OpenSpec.ofChange Rows.cellsBackSpec) :=
  OpenClaim.holds_of_wide 4 Try.f4 rfl rfl rfl rfl rfl rfl rfl ⟨rfl, rfl, rfl, rfl, rfl⟩ rfl rfl rfl rfl rfl (by kernel_rfl) Try.func4 (by kernel_rfl)
    (of_decide_eq_true (by kernel_rfl)) (by unfold Func.isWrapper; first | (rw [if_pos (by decide +kernel)]; kernel_rfl) | (rw [if_neg (by decide +kernel)]; exact ⟨rfl, rfl⟩))
    (fun os started H enc _ => lifted os started H enc)

/-- The statement. -/
theorem proved : Rows.CellsBackSaid := over
#print axioms proved
end Go.Proofs.Ytpcahaihlcaabaa.cellsBack
