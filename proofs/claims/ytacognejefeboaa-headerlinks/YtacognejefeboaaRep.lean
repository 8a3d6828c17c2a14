/-
  What bytes.Repeat comes to, of bytes of a width.
-/
import Derived.Test.YtacognejefeboaaC2
import Derived.Test.YtacognejefeboaaM4
import Derived.Test.YtacognejefeboaaLd
import Derived.Lib.MakeNoZero
import Derived.Laws.Externs
import Derived.Laws.Bits64b
import Derived.Deep.RegionHeld3
import Derived.IntWalk
namespace Go.Proofs.Ytacognejefeboaa
open Go.ChangeShapes Go.WideShapes Go.ChangeAt Go.RowKit
set_option linter.unusedVariables false
set_option maxRecDepth 20000

theorem mask_small (a : Nat) (ha : a < 4294967296) : bits .and .u64 (a : Int) 4294967295 = (a : Int) := by
  have h := bits_and_u64_nat a 4294967295 (by omega) (by omega)
  have e : a &&& 4294967295 = a % 4294967296 := Nat.and_two_pow_sub_one_eq_mod a 32
  rw [e, Nat.mod_eq_of_lt ha] at h
  exact h
theorem mask_zero : bits .and .u64 0 4294967295 = 0 := mask_small 0 (by omega)
theorem mul64_any (x y : Nat) (hx : x ≤ 8) (hy : y ≤ 1048576) (w : World) :
    Calls Try.prog 72 #[.int .u64 x, .int .u64 y] w fun e w' => e = .returned (.tuple #[.int .u64 0, .int .u64 ((x * y : Nat) : Int)]) ∧ w = w' := by
  have m1 := mask_small x (by omega)
  have m2 := mask_small y (by omega)
  have m3 := mask_zero
  have d1 : (x : Int) / 4294967296 = 0 := by omega
  have d2 : (y : Int) / 4294967296 = 0 := by omega
  have hp : (x : Int) * (y : Int) = ((x * y : Nat) : Int) := (Int.natCast_mul x y).symm
  have hb : x * y ≤ 8 * 1048576 := Nat.mul_le_mul hx hy
  generalize x * y = z at *
  have d3 : (z : Int) / 4294967296 = 0 := by omega
  have hw : IntKind.u64.wrap (z : Int) = z := by rw [wrapU]; omega
  go_enter Try.func72, Try.ntmps72
  go_wp2
  go_ret2
  exact ⟨rfl, rfl⟩
theorem mul_any (x y : Nat) (hx : x ≤ 8) (hy : y ≤ 1048576) (w : World) :
    Calls Try.prog 69 #[.int .u64 x, .int .u64 y] w fun e w' => e = .returned (.tuple #[.int .u64 0, .int .u64 ((x * y : Nat) : Int)]) ∧ w = w' := by
  go_enter Try.func69, Try.ntmps69
  go_wp2_with (go_at_call 72; refine (mul64_any x y hx hy _).mono ?_; rintro e w' ⟨rfl, rfl⟩)
  go_ret2
  exact ⟨rfl, rfl⟩
theorem mul_at (x y z : Nat) (hz : x * y = z) (hx : x ≤ 8) (hy : y ≤ 1048576) (w : World) :
    Calls Try.prog 69 #[.int .u64 x, .int .u64 y] w fun e w' => e = .returned (.tuple #[.int .u64 0, .int .u64 (z : Int)]) ∧ w = w' := by
  subst hz
  exact mul_any x y hx hy w

/-- A row of a call's own that is filled from the front. -/
structure Fil (w : World) (g N : Nat) (l : List UInt8) : Prop where
  le : l.length ≤ N
  has : ∀ j (h : j < l.length), w.cell? ⟨g, j, none⟩ = some (.int .u8 (l[j].toNat : Int))
  there : ∀ j, j < N → (w.cell? ⟨g, j, none⟩).isSome = true
  free : ∀ j, j < N → w.frozen? ⟨g, j, none⟩ = false
section
variable {w : World} {g N : Nat} {l : List UInt8}
theorem Fil.own (h : Fil w g N l) : Own w g l := ⟨h.has, fun j hj => h.free j (Nat.lt_of_lt_of_le hj h.le)⟩
theorem Fil.start (w : World) (cs : Array Value) (N : Nat) (hN : N ≤ cs.size) : Fil (w.alloc (.cells cs 5)) w.heap.size N [] := by
  refine ⟨Nat.zero_le _, fun j hj => absurd hj (by simp), fun j hj => ?_, fun j hj => ?_⟩
  · rw [World.cell?_alloc_mark, Array.getElem?_eq_getElem (by omega)]
    rfl
  · rw [World.frozen?_alloc_mark]
    simp
theorem Fil.copy (h : Fil w g N l) (A : Option Addr) (sl sc d dl dc : Nat) (xs p : List UInt8) (hd : d = l.length) (hdl : dl = N - l.length) (hp : p.length = min sl dl) (hxs : Lies w A (u8s xs)) (hx : p = xs.take p.length) (h0 : 0 < p.length) :
    (∀ ty : TypeId, (Builtin.copy_ #[34, 34] ty #[.slice (some ⟨g, d, none⟩) dl dc, .slice A sl sc]).run Try.prog w = .ok (goInt p.length) (w.setCells g d (u8s p))) ∧ Fil (w.setCells g d (u8s p)) g N (l ++ p) := by
  subst hd hdl
  have hle := h.le
  have hpl : l.length + p.length ≤ N := by omega
  have hxl : p.length ≤ xs.length := by
    have := congrArg List.length hx
    simp at this
    omega
  obtain ⟨a, rfl, hc⟩ := hxs (by rw [u8s_length]; omega)
  refine ⟨fun ty => ?_, ⟨by simpa using hpl, fun j hj => ?_, fun j hj => ?_, fun j hj => ?_⟩⟩
  · have := run_copy_cells (P := Try.prog) w 34 34 ty 5 g l.length (N - l.length) dc a sl sc (u8s p) Try.underlying34 (by kernel_rfl) (by rw [u8s_length]; exact hp) (fun j v hv => ?_) (fun j hj => ?_) (fun j hj => ?_) (fun v hv => ?_)
    · rw [u8s_length] at this
      exact this
    · have hj : j < (u8s p).length := (List.getElem?_eq_some_iff.1 hv).1
      rw [u8s_length] at hj
      rw [hc j (by rw [u8s_length]; omega)]
      have e : (u8s p)[j]? = (u8s xs)[j]? := by rw [hx, u8s_take, List.getElem?_take_of_lt (by omega)]
      rw [e, List.getElem?_eq_getElem (by rw [u8s_length]; omega)] at hv
      exact hv
    · rw [u8s_length] at hj
      exact h.there _ (by omega)
    · rw [u8s_length] at hj
      exact h.free _ (by omega)
    · unfold u8s at hv
      obtain ⟨b, _, rfl⟩ := List.mem_map.1 hv
      rfl
  · have hj' : j < l.length + p.length := by simpa using hj
    by_cases h1 : j < l.length
    · rw [World.cell?_setCells_out g (u8s p) l.length w _ (fun _ _ => Or.inl h1), h.has j h1, List.getElem_append_left h1]
    · obtain ⟨i, rfl⟩ : ∃ i, j = l.length + i := ⟨j - l.length, by omega⟩
      rw [World.cell?_setCells_in g (u8s p) l.length w (fun i hi => h.there _ (by rw [u8s_length] at hi; omega)) i (by rw [u8s_length]; omega), List.getElem_append_right (by omega)]
      simp [u8s]
  · by_cases h1 : l.length ≤ j ∧ j < l.length + p.length
    · obtain ⟨i, rfl⟩ : ∃ i, j = l.length + i := ⟨j - l.length, by omega⟩
      rw [World.cell?_setCells_in g (u8s p) l.length w (fun i hi => h.there _ (by rw [u8s_length] at hi; omega)) i (by rw [u8s_length]; omega)]
      rfl
    · rw [World.cell?_setCells_out g (u8s p) l.length w ⟨g, j, none⟩ (fun _ _ => by rw [u8s_length]; show j < _ ∨ _ ≤ j; omega)]
      exact h.there j hj
  · rw [World.frozen?_setCells]
    exact h.free j hj
end
theorem buf_tail (W : World) (g N j : Nat) (h : j < N) : (Instr.slice 34 (.slice (some ⟨g, 0, none⟩) N N) (some (.int .i64 (j : Int))) none none).run Try.prog W = .ok (.slice (some ⟨g, j, none⟩) (N - j) (N - j)) W := by
  rw [run_slice_l W 34 (some ⟨g, 0, none⟩) N N und22 .i64 j (by omega) (by omega), elem22, size5]
  simp only [Result.andThen_ok, sliced, Int.toNat_natCast]
  rw [if_neg (by omega)]
  have : (⟨g, 0, none⟩ : Addr).add j = ⟨g, j, none⟩ := by unfold Addr.add; split <;> simp_all
  simp [this]
theorem buf_head (W : World) (g N j : Nat) (x : Int) (hx : x = j) (h : j ≤ N) : (Instr.slice 34 (.slice (some ⟨g, 0, none⟩) N N) none (some (.int .i64 x)) none).run Try.prog W = .ok (.slice (some ⟨g, 0, none⟩) j N) W := by
  subst hx
  rw [run_slice_h W 34 (some ⟨g, 0, none⟩) N N und22 .i64 j (by omega) (by omega), elem22, size5]
  simp only [Result.andThen_ok, sliced, Int.toNat_natCast]
  simp [add_zero']

theorem repeat_zero (A : Option Addr) (k c : Nat) (w : World) :
    Calls Try.prog 65 #[.slice A k c, .int .i64 0] w fun e w' => e = .returned (.slice (some ⟨w.heap.size, 0, none⟩) 0 0) ∧ Below w.heap.size w w' := by
  go_enter Try.func65, Try.ntmps65
  go_wp2
  go_ret
  exact ⟨rfl, (Below.refl _ _).alloc (Nat.le_refl _) _⟩

/-- The new row that Repeat fills. -/
theorem made_row (w : World) (N : Nat) (hN : N ≤ 8388608) : ∃ W1 C, (callFunc 70 #[.int .i64 (N : Int)]).run Try.prog w = .ok (.value (.slice (some ⟨w.heap.size, 0, none⟩) N C)) W1 ∧ N ≤ C ∧ Fil W1 w.heap.size N [] ∧ Below w.heap.size w W1 ∧ w.heap.size < W1.heap.size := by
  obtain ⟨cs, hrun, hle, _⟩ := Lib.run_makeNoZero (P := Try.prog) w #[3] 34 5 Try.underlying34 N (by omega)
  refine ⟨_, _, ?_, hle, Fil.start w.drew.drew cs N hle, ((Below.refl w.heap.size w).drew.drew).alloc (Nat.le_refl _) _, by show w.heap.size < (World.alloc w.drew.drew _).heap.size; simp⟩
  rw [run_callFunc_extern Try.func70 (by kernel_rfl) (by kernel_rfl) (by kernel_rfl) (e := Extern.BytealgMakeNoZero.makeNoZero #[3] #[34]) (by kernel_rfl), hrun]
  rfl
theorem below_setCells {B : Nat} {a w : World} (h : Below B a w) {g : Nat} (hg : B ≤ g) : ∀ (vs : List Value) (o : Nat), Below B a (w.setCells g o vs) := by
  intro vs
  induction vs generalizing w with
  | nil => intro o; exact h
  | cons v r ih => intro o; exact ih (h.setCell (p := ⟨g, o, none⟩) hg v) (o + 1)
theorem size_setCells {w : World} (g : Nat) : ∀ (vs : List Value) (o : Nat), (w.setCells g o vs).heap.size = w.heap.size := by
  intro vs
  induction vs generalizing w with
  | nil => intro o; rfl
  | cons v r ih => intro o; exact (ih (w := w.setCell ⟨g, o, none⟩ v) (o + 1)).trans (by simp [World.setCell])
/-- A piece of what is repeated, copied. -/
theorem rep_piece {wr : World} {g N k t j c ch : Nat} {b : List UInt8} (hF : Fil wr g N ((M.rep b t).take j)) (hb : b.length = k) (hN : k * t = N) (hj : j < N) (hd : j % k = 0) (hch : ch ≤ j) (hc : c = min ch (N - j)) (h0 : 0 < c) :
    (∀ ty : TypeId, (Builtin.copy_ #[34, 34] ty #[.slice (some ⟨g, j, none⟩) (N - j) (N - j), .slice (some ⟨g, 0, none⟩) ch N]).run Try.prog wr = .ok (.int .i64 (c : Int)) (wr.setCells g j (u8s (((M.rep b t).take j).take c)))) ∧
      Fil (wr.setCells g j (u8s (((M.rep b t).take j).take c))) g N ((M.rep b t).take (j + c)) := by
  have hL : (M.rep b t).length = N := by rw [M.rep_length, hb, Nat.mul_comm]; exact hN
  have hjl : ((M.rep b t).take j).length = j := by simp [hL]; omega
  have hpl : (((M.rep b t).take j).take c).length = c := by rw [List.length_take, hjl]; omega
  have := hF.copy (some ⟨g, 0, none⟩) ch N j (N - j) (N - j) ((M.rep b t).take j) (((M.rep b t).take j).take c) hjl.symm (by rw [hjl]) (by rw [hpl]; omega) hF.own.lies (by rw [hpl]) (by rw [hpl]; exact h0)
  rw [hpl, M.rep_step b t j c (by rw [hb]; exact Nat.dvd_of_mod_eq_zero hd) (by rw [hb, Nat.mul_comm, hN]; omega) (by omega)] at this
  exact this

set_option maxHeartbeats 2000000 in
theorem repeat_yes (k : Nat) (hk : k = 1 ∨ k = 2 ∨ k = 4 ∨ k = 8) (A : Option Addr) (c t N g : Nat) (b : List UInt8) (hb : b.length = k) (h0 : 0 < t) (ht : t ≤ 1048576) (hN : k * t = N) (w : World) (hg : g = w.heap.size) (hl : Lies w A (u8s b)) :
    Calls Try.prog 65 #[.slice A k c, .int .i64 t] w fun e w' => e = .returned (.slice (some ⟨g, 0, none⟩) N N) ∧ Own w' g (M.rep b t) ∧ Below g w w' ∧ g < w'.heap.size := by
  have hN8 : N ≤ 8388608 := by rw [← hN]; exact Nat.mul_le_mul (show k ≤ 8 by omega) ht
  have hNk : k ≤ N := by rw [← hN]; exact Nat.le_mul_of_pos_right k h0
  have hNd : N % k = 0 := by rw [← hN]; exact Nat.mul_mod_right k t
  obtain ⟨W1, C, hcall, hNC, F1, B1, Z1⟩ := made_row w N hN8
  rw [← hg] at hcall F1 B1 Z1
  have hL : (M.rep b t).length = N := by rw [M.rep_length, hb, Nat.mul_comm]; exact hN
  have hb1 : (M.rep b t).take k = b := by
    obtain ⟨s, rfl⟩ : ∃ s, t = s + 1 := ⟨t - 1, by omega⟩
    rw [M.rep_succ, List.take_append_of_le_length (by omega), List.take_of_length_le (by omega)]
  have hco := F1.copy A k c 0 N N b b rfl rfl (by rw [hb]; omega) (hl.below (hg ▸ B1)) (by rw [List.take_length]) (by omega)
  rw [hb, List.nil_append] at hco
  obtain ⟨hco, F2⟩ := hco
  have B2 : Below g w (W1.setCells g 0 (u8s b)) := below_setCells B1 (Nat.le_refl _) _ _
  have Z2 : g < (W1.setCells g 0 (u8s b)).heap.size := by rw [size_setCells]; exact Z1
  generalize W1.setCells g 0 (u8s b) = W2 at *
  rw [← hb1] at F2
  have H2 := Lib.hid (show Fil W2 g N ((M.rep b t).take k) ∧ Below g w W2 ∧ g < W2.heap.size from ⟨F2, B2, Z2⟩)
  have HB := Lib.hid (show b.length = k ∧ k * t = N ∧ (M.rep b t).length = N ∧ N % k = 0 from ⟨hb, hN, hL, hNd⟩)
  have hcap : (N : Int) ≤ (C : Int) := by omega
  clear F1 B1 Z1 F2 B2 Z2 hb hN hL hNd hg hl hb1
  have HK := Lib.hid hk
  rcases hk with rfl | rfl | rfl | rfl
  · go_enter Try.func65, Try.ntmps65
    by_cases h8 : N ≤ 8192
    · have d8 : decide ((8192 : Int) < (N : Int)) = false := by simp; omega
      go_wp2_with (go_at_call 69; refine (mul_at 1 t N HB.out.2.1 (by omega) ht _).mono ?_; rintro e w' ⟨rfl, rfl⟩)
      go_loopw [10] (fun i wr => ∃ j : Nat, 1 ≤ j ∧ j ≤ N ∧ j % 1 = 0 ∧ i = .int .i64 j ∧ Fil wr g N ((M.rep b t).take j) ∧ Below g w wr ∧ g < wr.heap.size) (fun i _ => N - (intOf i).toNat)
      case atStart => exact ⟨1, by omega, by omega, by omega, rfl, H2.out⟩
      case round =>
        obtain ⟨j, hjk, hjN, hjd, rfl, hR⟩ := hrel
        have HR := Lib.hid hR
        clear hR hco
        by_cases hlt : j < N
        · obtain ⟨c1, hc1⟩ : ∃ c1, c1 = min j (N - j) := ⟨_, rfl⟩
          have hs1 := fun W => buf_tail W g N j hlt
          have hs2 := fun W => buf_head W g N j j (by omega) (by omega)
          go_wp2_with fail
          have F3 : Fil wr.drew g N ((M.rep b t).take j) := ⟨HR.out.1.le, HR.out.1.has, HR.out.1.there, HR.out.1.free⟩
          have B3 : Below g w wr.drew ∧ g < wr.drew.heap.size := ⟨HR.out.2.1.drew, HR.out.2.2⟩
          obtain ⟨hco, F4⟩ := rep_piece (ch := j) F3 HB.out.1 HB.out.2.1 hlt hjd (by omega) hc1 (by omega)
          have B4 := below_setCells B3.1 (Nat.le_refl g) (u8s (((M.rep b t).take j).take c1)) j
          have Z4 : g < (wr.drew.setCells g j (u8s (((M.rep b t).take j).take c1))).heap.size := by rw [size_setCells]; exact B3.2
          have H4 := Lib.hid (And.intro F4 (And.intro B4 Z4))
          have hc1N : c1 ≤ N := by omega
          have HC1 := Lib.hid hc1
          clear F3 B3 F4 hc1 B4 Z4
          generalize wr.drew.setCells g j (u8s (((M.rep b t).take j).take c1)) = w4 at *
          have hwr : IntKind.i64.wrap ((j : Int) + (c1 : Int)) = (j : Int) + (c1 : Int) := IntWalk.i64_in _ (by have := HC1.out; omega)
          go_region_held3 (fun _ => True) (trivial) (fail)
          go_wp2_with fail
          clear hwr
          go_roundw
          case rel => exact ⟨j + c1, by have := HC1.out; omega, by have := HC1.out; omega, by have := HC1.out; have := HB.out.2.2.2; omega, by go_num, H4.out⟩
          case measure => have := HC1.out; simp [intOf]; omega
        · go_wp2_with fail
          go_ret
          obtain rfl : j = N := by omega
          exact ⟨rfl, by have := HR.out.1.own; rwa [List.take_of_length_le (by have := HB.out.2.2.1; omega)] at this, HR.out.2⟩
    · have d8 : decide ((8192 : Int) < (N : Int)) = true := by simp; omega
      go_wp2_with (go_at_call 69; refine (mul_at 1 t N HB.out.2.1 (by omega) ht _).mono ?_; rintro e w' ⟨rfl, rfl⟩)
      go_loopw [10] (fun i wr => ∃ j : Nat, 1 ≤ j ∧ j ≤ N ∧ j % 1 = 0 ∧ i = .int .i64 j ∧ Fil wr g N ((M.rep b t).take j) ∧ Below g w wr ∧ g < wr.heap.size) (fun i _ => N - (intOf i).toNat)
      case atStart => exact ⟨1, by omega, by omega, by omega, rfl, H2.out⟩
      case round =>
        obtain ⟨j, hjk, hjN, hjd, rfl, hR⟩ := hrel
        have HR := Lib.hid hR
        clear hR hco
        by_cases hlt : j < N
        · by_cases hj8 : j ≤ 8192
          · obtain ⟨c1, hc1⟩ : ∃ c1, c1 = min j (N - j) := ⟨_, rfl⟩
            have hs1 := fun W => buf_tail W g N j hlt
            have hs2 := fun W => buf_head W g N j j (by omega) (by omega)
            go_wp2_with fail
            have F3 : Fil wr.drew g N ((M.rep b t).take j) := ⟨HR.out.1.le, HR.out.1.has, HR.out.1.there, HR.out.1.free⟩
            have B3 : Below g w wr.drew ∧ g < wr.drew.heap.size := ⟨HR.out.2.1.drew, HR.out.2.2⟩
            obtain ⟨hco, F4⟩ := rep_piece (ch := j) F3 HB.out.1 HB.out.2.1 hlt hjd (by omega) hc1 (by omega)
            have B4 := below_setCells B3.1 (Nat.le_refl g) (u8s (((M.rep b t).take j).take c1)) j
            have Z4 : g < (wr.drew.setCells g j (u8s (((M.rep b t).take j).take c1))).heap.size := by rw [size_setCells]; exact B3.2
            have H4 := Lib.hid (And.intro F4 (And.intro B4 Z4))
            have hc1N : c1 ≤ N := by omega
            have HC1 := Lib.hid hc1
            clear F3 B3 F4 hc1 B4 Z4
            generalize wr.drew.setCells g j (u8s (((M.rep b t).take j).take c1)) = w4 at *
            have hwr : IntKind.i64.wrap ((j : Int) + (c1 : Int)) = (j : Int) + (c1 : Int) := IntWalk.i64_in _ (by have := HC1.out; omega)
            go_region_held3 (fun _ => True) (trivial) (fail)
            go_wp2_with fail
            clear hwr
            go_roundw
            case rel => exact ⟨j + c1, by have := HC1.out; omega, by have := HC1.out; omega, by have := HC1.out; have := HB.out.2.2.2; omega, by go_num, H4.out⟩
            case measure => have := HC1.out; simp [intOf]; omega
          · obtain ⟨c1, hc1⟩ : ∃ c1, c1 = min 8192 (N - j) := ⟨_, rfl⟩
            have hs1 := fun W => buf_tail W g N j hlt
            have hs2 := fun W => buf_head W g N 8192 8192 (by omega) (by omega)
            go_wp2_with fail
            have F3 : Fil wr.drew g N ((M.rep b t).take j) := ⟨HR.out.1.le, HR.out.1.has, HR.out.1.there, HR.out.1.free⟩
            have B3 : Below g w wr.drew ∧ g < wr.drew.heap.size := ⟨HR.out.2.1.drew, HR.out.2.2⟩
            obtain ⟨hco, F4⟩ := rep_piece (ch := 8192) F3 HB.out.1 HB.out.2.1 hlt hjd (by omega) hc1 (by omega)
            have B4 := below_setCells B3.1 (Nat.le_refl g) (u8s (((M.rep b t).take j).take c1)) j
            have Z4 : g < (wr.drew.setCells g j (u8s (((M.rep b t).take j).take c1))).heap.size := by rw [size_setCells]; exact B3.2
            have H4 := Lib.hid (And.intro F4 (And.intro B4 Z4))
            have hc1N : c1 ≤ N := by omega
            have HC1 := Lib.hid hc1
            clear F3 B3 F4 hc1 B4 Z4
            generalize wr.drew.setCells g j (u8s (((M.rep b t).take j).take c1)) = w4 at *
            have hwr : IntKind.i64.wrap ((j : Int) + (c1 : Int)) = (j : Int) + (c1 : Int) := IntWalk.i64_in _ (by have := HC1.out; omega)
            go_region_held3 (fun _ => True) (trivial) (fail)
            go_wp2_with fail
            clear hwr
            go_roundw
            case rel => exact ⟨j + c1, by have := HC1.out; omega, by have := HC1.out; omega, by have := HC1.out; have := HB.out.2.2.2; omega, by go_num, H4.out⟩
            case measure => have := HC1.out; simp [intOf]; omega
        · go_wp2_with fail
          go_ret
          obtain rfl : j = N := by omega
          exact ⟨rfl, by have := HR.out.1.own; rwa [List.take_of_length_le (by have := HB.out.2.2.1; omega)] at this, HR.out.2⟩
  · go_enter Try.func65, Try.ntmps65
    by_cases h8 : N ≤ 8192
    · have d8 : decide ((8192 : Int) < (N : Int)) = false := by simp; omega
      go_wp2_with (go_at_call 69; refine (mul_at 2 t N HB.out.2.1 (by omega) ht _).mono ?_; rintro e w' ⟨rfl, rfl⟩)
      go_loopw [10] (fun i wr => ∃ j : Nat, 2 ≤ j ∧ j ≤ N ∧ j % 2 = 0 ∧ i = .int .i64 j ∧ Fil wr g N ((M.rep b t).take j) ∧ Below g w wr ∧ g < wr.heap.size) (fun i _ => N - (intOf i).toNat)
      case atStart => exact ⟨2, by omega, by omega, by omega, rfl, H2.out⟩
      case round =>
        obtain ⟨j, hjk, hjN, hjd, rfl, hR⟩ := hrel
        have HR := Lib.hid hR
        clear hR hco
        by_cases hlt : j < N
        · obtain ⟨c1, hc1⟩ : ∃ c1, c1 = min j (N - j) := ⟨_, rfl⟩
          have hs1 := fun W => buf_tail W g N j hlt
          have hs2 := fun W => buf_head W g N j j (by omega) (by omega)
          go_wp2_with fail
          have F3 : Fil wr.drew g N ((M.rep b t).take j) := ⟨HR.out.1.le, HR.out.1.has, HR.out.1.there, HR.out.1.free⟩
          have B3 : Below g w wr.drew ∧ g < wr.drew.heap.size := ⟨HR.out.2.1.drew, HR.out.2.2⟩
          obtain ⟨hco, F4⟩ := rep_piece (ch := j) F3 HB.out.1 HB.out.2.1 hlt hjd (by omega) hc1 (by omega)
          have B4 := below_setCells B3.1 (Nat.le_refl g) (u8s (((M.rep b t).take j).take c1)) j
          have Z4 : g < (wr.drew.setCells g j (u8s (((M.rep b t).take j).take c1))).heap.size := by rw [size_setCells]; exact B3.2
          have H4 := Lib.hid (And.intro F4 (And.intro B4 Z4))
          have hc1N : c1 ≤ N := by omega
          have HC1 := Lib.hid hc1
          clear F3 B3 F4 hc1 B4 Z4
          generalize wr.drew.setCells g j (u8s (((M.rep b t).take j).take c1)) = w4 at *
          have hwr : IntKind.i64.wrap ((j : Int) + (c1 : Int)) = (j : Int) + (c1 : Int) := IntWalk.i64_in _ (by have := HC1.out; omega)
          go_region_held3 (fun _ => True) (trivial) (fail)
          go_wp2_with fail
          clear hwr
          go_roundw
          case rel => exact ⟨j + c1, by have := HC1.out; omega, by have := HC1.out; omega, by have := HC1.out; have := HB.out.2.2.2; omega, by go_num, H4.out⟩
          case measure => have := HC1.out; simp [intOf]; omega
        · go_wp2_with fail
          go_ret
          obtain rfl : j = N := by omega
          exact ⟨rfl, by have := HR.out.1.own; rwa [List.take_of_length_le (by have := HB.out.2.2.1; omega)] at this, HR.out.2⟩
    · have d8 : decide ((8192 : Int) < (N : Int)) = true := by simp; omega
      go_wp2_with (go_at_call 69; refine (mul_at 2 t N HB.out.2.1 (by omega) ht _).mono ?_; rintro e w' ⟨rfl, rfl⟩)
      go_loopw [10] (fun i wr => ∃ j : Nat, 2 ≤ j ∧ j ≤ N ∧ j % 2 = 0 ∧ i = .int .i64 j ∧ Fil wr g N ((M.rep b t).take j) ∧ Below g w wr ∧ g < wr.heap.size) (fun i _ => N - (intOf i).toNat)
      case atStart => exact ⟨2, by omega, by omega, by omega, rfl, H2.out⟩
      case round =>
        obtain ⟨j, hjk, hjN, hjd, rfl, hR⟩ := hrel
        have HR := Lib.hid hR
        clear hR hco
        by_cases hlt : j < N
        · by_cases hj8 : j ≤ 8192
          · obtain ⟨c1, hc1⟩ : ∃ c1, c1 = min j (N - j) := ⟨_, rfl⟩
            have hs1 := fun W => buf_tail W g N j hlt
            have hs2 := fun W => buf_head W g N j j (by omega) (by omega)
            go_wp2_with fail
            have F3 : Fil wr.drew g N ((M.rep b t).take j) := ⟨HR.out.1.le, HR.out.1.has, HR.out.1.there, HR.out.1.free⟩
            have B3 : Below g w wr.drew ∧ g < wr.drew.heap.size := ⟨HR.out.2.1.drew, HR.out.2.2⟩
            obtain ⟨hco, F4⟩ := rep_piece (ch := j) F3 HB.out.1 HB.out.2.1 hlt hjd (by omega) hc1 (by omega)
            have B4 := below_setCells B3.1 (Nat.le_refl g) (u8s (((M.rep b t).take j).take c1)) j
            have Z4 : g < (wr.drew.setCells g j (u8s (((M.rep b t).take j).take c1))).heap.size := by rw [size_setCells]; exact B3.2
            have H4 := Lib.hid (And.intro F4 (And.intro B4 Z4))
            have hc1N : c1 ≤ N := by omega
            have HC1 := Lib.hid hc1
            clear F3 B3 F4 hc1 B4 Z4
            generalize wr.drew.setCells g j (u8s (((M.rep b t).take j).take c1)) = w4 at *
            have hwr : IntKind.i64.wrap ((j : Int) + (c1 : Int)) = (j : Int) + (c1 : Int) := IntWalk.i64_in _ (by have := HC1.out; omega)
            go_region_held3 (fun _ => True) (trivial) (fail)
            go_wp2_with fail
            clear hwr
            go_roundw
            case rel => exact ⟨j + c1, by have := HC1.out; omega, by have := HC1.out; omega, by have := HC1.out; have := HB.out.2.2.2; omega, by go_num, H4.out⟩
            case measure => have := HC1.out; simp [intOf]; omega
          · obtain ⟨c1, hc1⟩ : ∃ c1, c1 = min 8192 (N - j) := ⟨_, rfl⟩
            have hs1 := fun W => buf_tail W g N j hlt
            have hs2 := fun W => buf_head W g N 8192 8192 (by omega) (by omega)
            go_wp2_with fail
            have F3 : Fil wr.drew g N ((M.rep b t).take j) := ⟨HR.out.1.le, HR.out.1.has, HR.out.1.there, HR.out.1.free⟩
            have B3 : Below g w wr.drew ∧ g < wr.drew.heap.size := ⟨HR.out.2.1.drew, HR.out.2.2⟩
            obtain ⟨hco, F4⟩ := rep_piece (ch := 8192) F3 HB.out.1 HB.out.2.1 hlt hjd (by omega) hc1 (by omega)
            have B4 := below_setCells B3.1 (Nat.le_refl g) (u8s (((M.rep b t).take j).take c1)) j
            have Z4 : g < (wr.drew.setCells g j (u8s (((M.rep b t).take j).take c1))).heap.size := by rw [size_setCells]; exact B3.2
            have H4 := Lib.hid (And.intro F4 (And.intro B4 Z4))
            have hc1N : c1 ≤ N := by omega
            have HC1 := Lib.hid hc1
            clear F3 B3 F4 hc1 B4 Z4
            generalize wr.drew.setCells g j (u8s (((M.rep b t).take j).take c1)) = w4 at *
            have hwr : IntKind.i64.wrap ((j : Int) + (c1 : Int)) = (j : Int) + (c1 : Int) := IntWalk.i64_in _ (by have := HC1.out; omega)
            go_region_held3 (fun _ => True) (trivial) (fail)
            go_wp2_with fail
            clear hwr
            go_roundw
            case rel => exact ⟨j + c1, by have := HC1.out; omega, by have := HC1.out; omega, by have := HC1.out; have := HB.out.2.2.2; omega, by go_num, H4.out⟩
            case measure => have := HC1.out; simp [intOf]; omega
        · go_wp2_with fail
          go_ret
          obtain rfl : j = N := by omega
          exact ⟨rfl, by have := HR.out.1.own; rwa [List.take_of_length_le (by have := HB.out.2.2.1; omega)] at this, HR.out.2⟩
  · go_enter Try.func65, Try.ntmps65
    by_cases h8 : N ≤ 8192
    · have d8 : decide ((8192 : Int) < (N : Int)) = false := by simp; omega
      go_wp2_with (go_at_call 69; refine (mul_at 4 t N HB.out.2.1 (by omega) ht _).mono ?_; rintro e w' ⟨rfl, rfl⟩)
      go_loopw [10] (fun i wr => ∃ j : Nat, 4 ≤ j ∧ j ≤ N ∧ j % 4 = 0 ∧ i = .int .i64 j ∧ Fil wr g N ((M.rep b t).take j) ∧ Below g w wr ∧ g < wr.heap.size) (fun i _ => N - (intOf i).toNat)
      case atStart => exact ⟨4, by omega, by omega, by omega, rfl, H2.out⟩
      case round =>
        obtain ⟨j, hjk, hjN, hjd, rfl, hR⟩ := hrel
        have HR := Lib.hid hR
        clear hR hco
        by_cases hlt : j < N
        · obtain ⟨c1, hc1⟩ : ∃ c1, c1 = min j (N - j) := ⟨_, rfl⟩
          have hs1 := fun W => buf_tail W g N j hlt
          have hs2 := fun W => buf_head W g N j j (by omega) (by omega)
          go_wp2_with fail
          have F3 : Fil wr.drew g N ((M.rep b t).take j) := ⟨HR.out.1.le, HR.out.1.has, HR.out.1.there, HR.out.1.free⟩
          have B3 : Below g w wr.drew ∧ g < wr.drew.heap.size := ⟨HR.out.2.1.drew, HR.out.2.2⟩
          obtain ⟨hco, F4⟩ := rep_piece (ch := j) F3 HB.out.1 HB.out.2.1 hlt hjd (by omega) hc1 (by omega)
          have B4 := below_setCells B3.1 (Nat.le_refl g) (u8s (((M.rep b t).take j).take c1)) j
          have Z4 : g < (wr.drew.setCells g j (u8s (((M.rep b t).take j).take c1))).heap.size := by rw [size_setCells]; exact B3.2
          have H4 := Lib.hid (And.intro F4 (And.intro B4 Z4))
          have hc1N : c1 ≤ N := by omega
          have HC1 := Lib.hid hc1
          clear F3 B3 F4 hc1 B4 Z4
          generalize wr.drew.setCells g j (u8s (((M.rep b t).take j).take c1)) = w4 at *
          have hwr : IntKind.i64.wrap ((j : Int) + (c1 : Int)) = (j : Int) + (c1 : Int) := IntWalk.i64_in _ (by have := HC1.out; omega)
          go_region_held3 (fun _ => True) (trivial) (fail)
          go_wp2_with fail
          clear hwr
          go_roundw
          case rel => exact ⟨j + c1, by have := HC1.out; omega, by have := HC1.out; omega, by have := HC1.out; have := HB.out.2.2.2; omega, by go_num, H4.out⟩
          case measure => have := HC1.out; simp [intOf]; omega
        · go_wp2_with fail
          go_ret
          obtain rfl : j = N := by omega
          exact ⟨rfl, by have := HR.out.1.own; rwa [List.take_of_length_le (by have := HB.out.2.2.1; omega)] at this, HR.out.2⟩
    · have d8 : decide ((8192 : Int) < (N : Int)) = true := by simp; omega
      go_wp2_with (go_at_call 69; refine (mul_at 4 t N HB.out.2.1 (by omega) ht _).mono ?_; rintro e w' ⟨rfl, rfl⟩)
      go_loopw [10] (fun i wr => ∃ j : Nat, 4 ≤ j ∧ j ≤ N ∧ j % 4 = 0 ∧ i = .int .i64 j ∧ Fil wr g N ((M.rep b t).take j) ∧ Below g w wr ∧ g < wr.heap.size) (fun i _ => N - (intOf i).toNat)
      case atStart => exact ⟨4, by omega, by omega, by omega, rfl, H2.out⟩
      case round =>
        obtain ⟨j, hjk, hjN, hjd, rfl, hR⟩ := hrel
        have HR := Lib.hid hR
        clear hR hco
        by_cases hlt : j < N
        · by_cases hj8 : j ≤ 8192
          · obtain ⟨c1, hc1⟩ : ∃ c1, c1 = min j (N - j) := ⟨_, rfl⟩
            have hs1 := fun W => buf_tail W g N j hlt
            have hs2 := fun W => buf_head W g N j j (by omega) (by omega)
            go_wp2_with fail
            have F3 : Fil wr.drew g N ((M.rep b t).take j) := ⟨HR.out.1.le, HR.out.1.has, HR.out.1.there, HR.out.1.free⟩
            have B3 : Below g w wr.drew ∧ g < wr.drew.heap.size := ⟨HR.out.2.1.drew, HR.out.2.2⟩
            obtain ⟨hco, F4⟩ := rep_piece (ch := j) F3 HB.out.1 HB.out.2.1 hlt hjd (by omega) hc1 (by omega)
            have B4 := below_setCells B3.1 (Nat.le_refl g) (u8s (((M.rep b t).take j).take c1)) j
            have Z4 : g < (wr.drew.setCells g j (u8s (((M.rep b t).take j).take c1))).heap.size := by rw [size_setCells]; exact B3.2
            have H4 := Lib.hid (And.intro F4 (And.intro B4 Z4))
            have hc1N : c1 ≤ N := by omega
            have HC1 := Lib.hid hc1
            clear F3 B3 F4 hc1 B4 Z4
            generalize wr.drew.setCells g j (u8s (((M.rep b t).take j).take c1)) = w4 at *
            have hwr : IntKind.i64.wrap ((j : Int) + (c1 : Int)) = (j : Int) + (c1 : Int) := IntWalk.i64_in _ (by have := HC1.out; omega)
            go_region_held3 (fun _ => True) (trivial) (fail)
            go_wp2_with fail
            clear hwr
            go_roundw
            case rel => exact ⟨j + c1, by have := HC1.out; omega, by have := HC1.out; omega, by have := HC1.out; have := HB.out.2.2.2; omega, by go_num, H4.out⟩
            case measure => have := HC1.out; simp [intOf]; omega
          · obtain ⟨c1, hc1⟩ : ∃ c1, c1 = min 8192 (N - j) := ⟨_, rfl⟩
            have hs1 := fun W => buf_tail W g N j hlt
            have hs2 := fun W => buf_head W g N 8192 8192 (by omega) (by omega)
            go_wp2_with fail
            have F3 : Fil wr.drew g N ((M.rep b t).take j) := ⟨HR.out.1.le, HR.out.1.has, HR.out.1.there, HR.out.1.free⟩
            have B3 : Below g w wr.drew ∧ g < wr.drew.heap.size := ⟨HR.out.2.1.drew, HR.out.2.2⟩
            obtain ⟨hco, F4⟩ := rep_piece (ch := 8192) F3 HB.out.1 HB.out.2.1 hlt hjd (by omega) hc1 (by omega)
            have B4 := below_setCells B3.1 (Nat.le_refl g) (u8s (((M.rep b t).take j).take c1)) j
            have Z4 : g < (wr.drew.setCells g j (u8s (((M.rep b t).take j).take c1))).heap.size := by rw [size_setCells]; exact B3.2
            have H4 := Lib.hid (And.intro F4 (And.intro B4 Z4))
            have hc1N : c1 ≤ N := by omega
            have HC1 := Lib.hid hc1
            clear F3 B3 F4 hc1 B4 Z4
            generalize wr.drew.setCells g j (u8s (((M.rep b t).take j).take c1)) = w4 at *
            have hwr : IntKind.i64.wrap ((j : Int) + (c1 : Int)) = (j : Int) + (c1 : Int) := IntWalk.i64_in _ (by have := HC1.out; omega)
            go_region_held3 (fun _ => True) (trivial) (fail)
            go_wp2_with fail
            clear hwr
            go_roundw
            case rel => exact ⟨j + c1, by have := HC1.out; omega, by have := HC1.out; omega, by have := HC1.out; have := HB.out.2.2.2; omega, by go_num, H4.out⟩
            case measure => have := HC1.out; simp [intOf]; omega
        · go_wp2_with fail
          go_ret
          obtain rfl : j = N := by omega
          exact ⟨rfl, by have := HR.out.1.own; rwa [List.take_of_length_le (by have := HB.out.2.2.1; omega)] at this, HR.out.2⟩
  · go_enter Try.func65, Try.ntmps65
    by_cases h8 : N ≤ 8192
    · have d8 : decide ((8192 : Int) < (N : Int)) = false := by simp; omega
      go_wp2_with (go_at_call 69; refine (mul_at 8 t N HB.out.2.1 (by omega) ht _).mono ?_; rintro e w' ⟨rfl, rfl⟩)
      go_loopw [10] (fun i wr => ∃ j : Nat, 8 ≤ j ∧ j ≤ N ∧ j % 8 = 0 ∧ i = .int .i64 j ∧ Fil wr g N ((M.rep b t).take j) ∧ Below g w wr ∧ g < wr.heap.size) (fun i _ => N - (intOf i).toNat)
      case atStart => exact ⟨8, by omega, by omega, by omega, rfl, H2.out⟩
      case round =>
        obtain ⟨j, hjk, hjN, hjd, rfl, hR⟩ := hrel
        have HR := Lib.hid hR
        clear hR hco
        by_cases hlt : j < N
        · obtain ⟨c1, hc1⟩ : ∃ c1, c1 = min j (N - j) := ⟨_, rfl⟩
          have hs1 := fun W => buf_tail W g N j hlt
          have hs2 := fun W => buf_head W g N j j (by omega) (by omega)
          go_wp2_with fail
          have F3 : Fil wr.drew g N ((M.rep b t).take j) := ⟨HR.out.1.le, HR.out.1.has, HR.out.1.there, HR.out.1.free⟩
          have B3 : Below g w wr.drew ∧ g < wr.drew.heap.size := ⟨HR.out.2.1.drew, HR.out.2.2⟩
          obtain ⟨hco, F4⟩ := rep_piece (ch := j) F3 HB.out.1 HB.out.2.1 hlt hjd (by omega) hc1 (by omega)
          have B4 := below_setCells B3.1 (Nat.le_refl g) (u8s (((M.rep b t).take j).take c1)) j
          have Z4 : g < (wr.drew.setCells g j (u8s (((M.rep b t).take j).take c1))).heap.size := by rw [size_setCells]; exact B3.2
          have H4 := Lib.hid (And.intro F4 (And.intro B4 Z4))
          have hc1N : c1 ≤ N := by omega
          have HC1 := Lib.hid hc1
          clear F3 B3 F4 hc1 B4 Z4
          generalize wr.drew.setCells g j (u8s (((M.rep b t).take j).take c1)) = w4 at *
          have hwr : IntKind.i64.wrap ((j : Int) + (c1 : Int)) = (j : Int) + (c1 : Int) := IntWalk.i64_in _ (by have := HC1.out; omega)
          go_region_held3 (fun _ => True) (trivial) (fail)
          go_wp2_with fail
          clear hwr
          go_roundw
          case rel => exact ⟨j + c1, by have := HC1.out; omega, by have := HC1.out; omega, by have := HC1.out; have := HB.out.2.2.2; omega, by go_num, H4.out⟩
          case measure => have := HC1.out; simp [intOf]; omega
        · go_wp2_with fail
          go_ret
          obtain rfl : j = N := by omega
          exact ⟨rfl, by have := HR.out.1.own; rwa [List.take_of_length_le (by have := HB.out.2.2.1; omega)] at this, HR.out.2⟩
    · have d8 : decide ((8192 : Int) < (N : Int)) = true := by simp; omega
      go_wp2_with (go_at_call 69; refine (mul_at 8 t N HB.out.2.1 (by omega) ht _).mono ?_; rintro e w' ⟨rfl, rfl⟩)
      go_loopw [10] (fun i wr => ∃ j : Nat, 8 ≤ j ∧ j ≤ N ∧ j % 8 = 0 ∧ i = .int .i64 j ∧ Fil wr g N ((M.rep b t).take j) ∧ Below g w wr ∧ g < wr.heap.size) (fun i _ => N - (intOf i).toNat)
      case atStart => exact ⟨8, by omega, by omega, by omega, rfl, H2.out⟩
      case round =>
        obtain ⟨j, hjk, hjN, hjd, rfl, hR⟩ := hrel
        have HR := Lib.hid hR
        clear hR hco
        by_cases hlt : j < N
        · by_cases hj8 : j ≤ 8192
          · obtain ⟨c1, hc1⟩ : ∃ c1, c1 = min j (N - j) := ⟨_, rfl⟩
            have hs1 := fun W => buf_tail W g N j hlt
            have hs2 := fun W => buf_head W g N j j (by omega) (by omega)
            go_wp2_with fail
            have F3 : Fil wr.drew g N ((M.rep b t).take j) := ⟨HR.out.1.le, HR.out.1.has, HR.out.1.there, HR.out.1.free⟩
            have B3 : Below g w wr.drew ∧ g < wr.drew.heap.size := ⟨HR.out.2.1.drew, HR.out.2.2⟩
            obtain ⟨hco, F4⟩ := rep_piece (ch := j) F3 HB.out.1 HB.out.2.1 hlt hjd (by omega) hc1 (by omega)
            have B4 := below_setCells B3.1 (Nat.le_refl g) (u8s (((M.rep b t).take j).take c1)) j
            have Z4 : g < (wr.drew.setCells g j (u8s (((M.rep b t).take j).take c1))).heap.size := by rw [size_setCells]; exact B3.2
            have H4 := Lib.hid (And.intro F4 (And.intro B4 Z4))
            have hc1N : c1 ≤ N := by omega
            have HC1 := Lib.hid hc1
            clear F3 B3 F4 hc1 B4 Z4
            generalize wr.drew.setCells g j (u8s (((M.rep b t).take j).take c1)) = w4 at *
            have hwr : IntKind.i64.wrap ((j : Int) + (c1 : Int)) = (j : Int) + (c1 : Int) := IntWalk.i64_in _ (by have := HC1.out; omega)
            go_region_held3 (fun _ => True) (trivial) (fail)
            go_wp2_with fail
            clear hwr
            go_roundw
            case rel => exact ⟨j + c1, by have := HC1.out; omega, by have := HC1.out; omega, by have := HC1.out; have := HB.out.2.2.2; omega, by go_num, H4.out⟩
            case measure => have := HC1.out; simp [intOf]; omega
          · obtain ⟨c1, hc1⟩ : ∃ c1, c1 = min 8192 (N - j) := ⟨_, rfl⟩
            have hs1 := fun W => buf_tail W g N j hlt
            have hs2 := fun W => buf_head W g N 8192 8192 (by omega) (by omega)
            go_wp2_with fail
            have F3 : Fil wr.drew g N ((M.rep b t).take j) := ⟨HR.out.1.le, HR.out.1.has, HR.out.1.there, HR.out.1.free⟩
            have B3 : Below g w wr.drew ∧ g < wr.drew.heap.size := ⟨HR.out.2.1.drew, HR.out.2.2⟩
            obtain ⟨hco, F4⟩ := rep_piece (ch := 8192) F3 HB.out.1 HB.out.2.1 hlt hjd (by omega) hc1 (by omega)
            have B4 := below_setCells B3.1 (Nat.le_refl g) (u8s (((M.rep b t).take j).take c1)) j
            have Z4 : g < (wr.drew.setCells g j (u8s (((M.rep b t).take j).take c1))).heap.size := by rw [size_setCells]; exact B3.2
            have H4 := Lib.hid (And.intro F4 (And.intro B4 Z4))
            have hc1N : c1 ≤ N := by omega
            have HC1 := Lib.hid hc1
            clear F3 B3 F4 hc1 B4 Z4
            generalize wr.drew.setCells g j (u8s (((M.rep b t).take j).take c1)) = w4 at *
            have hwr : IntKind.i64.wrap ((j : Int) + (c1 : Int)) = (j : Int) + (c1 : Int) := IntWalk.i64_in _ (by have := HC1.out; omega)
            go_region_held3 (fun _ => True) (trivial) (fail)
            go_wp2_with fail
            clear hwr
            go_roundw
            case rel => exact ⟨j + c1, by have := HC1.out; omega, by have := HC1.out; omega, by have := HC1.out; have := HB.out.2.2.2; omega, by go_num, H4.out⟩
            case measure => have := HC1.out; simp [intOf]; omega
        · go_wp2_with fail
          go_ret
          obtain rfl : j = N := by omega
          exact ⟨rfl, by have := HR.out.1.own; rwa [List.take_of_length_le (by have := HB.out.2.2.1; omega)] at this, HR.out.2⟩
end Go.Proofs.Ytacognejefeboaa
