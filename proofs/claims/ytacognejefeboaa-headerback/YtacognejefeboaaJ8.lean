/-
  The small functions of header: whether a header may be, where a page begins, parts one behind the other.
-/
import Derived.Test.YtacognejefeboaaM8
import Derived.Test.YtacognejefeboaaCel3
namespace Go.Proofs.Ytacognejefeboaa
open Go.ChangeShapes Go.WideShapes Go.ChangeAt Go.RowKit
set_option linter.unusedVariables false
set_option maxRecDepth 20000

/-- A header as a value. -/
abbrev hv (p k o n : Int) : Value := .agg #[.int .i64 p, .int .i64 k, .int .u64 o, .int .u64 n]
theorem hright_any (p k o n : Int) (w : World) :
    Calls Try.prog 29 #[hv p k o n] w fun e w' => e = .returned (.bool (M.right p k)) ∧ Below w.heap.size w w' := by
  have HB := Lib.hid ((Below.refl w.heap.size w).alloc (Nat.le_refl _) (.cells #[.int .i64 p, .int .i64 k, .int .u64 o, .int .u64 n] 33))
  by_cases h1 : 1 ≤ p
  · by_cases h2 : p ≤ 1048576
    · by_cases h3 : 0 ≤ k
      · by_cases h4 : k ≤ 255
        · have HR := Lib.hid (show M.right p k = true by rw [M.right_iff]; omega)
          have e1 : decide (1 ≤ p) = true := by simpa using h1
          have e2 : decide (p ≤ 1048576) = true := by simpa using h2
          have e3 : decide (0 ≤ k) = true := by simpa using h3
          have e4 : decide (k ≤ 255) = true := by simpa using h4
          clear h1 h2 h3 h4
          go_enter Try.func29, Try.ntmps29
          go_wp2
          go_ret
          exact ⟨by rw [HR.out]; rfl, HB.out⟩
        · have HR := Lib.hid (show M.right p k = false by rw [M.right_not]; omega)
          have e1 : decide (1 ≤ p) = true := by simpa using h1
          have e2 : decide (p ≤ 1048576) = true := by simpa using h2
          have e3 : decide (0 ≤ k) = true := by simpa using h3
          have e4 : decide (k ≤ 255) = false := by simpa using h4
          clear h1 h2 h3 h4
          go_enter Try.func29, Try.ntmps29
          go_wp2
          go_ret
          exact ⟨by rw [HR.out]; rfl, HB.out⟩
      · have HR := Lib.hid (show M.right p k = false by rw [M.right_not]; omega)
        have e1 : decide (1 ≤ p) = true := by simpa using h1
        have e2 : decide (p ≤ 1048576) = true := by simpa using h2
        have e3 : decide (0 ≤ k) = false := by simpa using h3
        clear h1 h2 h3
        go_enter Try.func29, Try.ntmps29
        go_wp2
        go_ret
        exact ⟨by rw [HR.out]; rfl, HB.out⟩
    · have HR := Lib.hid (show M.right p k = false by rw [M.right_not]; omega)
      have e1 : decide (1 ≤ p) = true := by simpa using h1
      have e2 : decide (p ≤ 1048576) = false := by simpa using h2
      clear h1 h2
      go_enter Try.func29, Try.ntmps29
      go_wp2
      go_ret
      exact ⟨by rw [HR.out]; rfl, HB.out⟩
  · have HR := Lib.hid (show M.right p k = false by rw [M.right_not]; omega)
    have e1 : decide (1 ≤ p) = false := by simpa using h1
    clear h1
    go_enter Try.func29, Try.ntmps29
    go_wp2
    go_ret
    exact ⟨by rw [HR.out]; rfl, HB.out⟩

/-- Is a page in a space? -/
def pin (P : Nat) (x : Int) : Bool := decide (0 ≤ x) && decide (x < (P : Int))
theorem pin_yes {P : Nat} {x : Int} (h : pin P x = true) : ∃ a : Nat, x = a ∧ a < P := by
  unfold pin at h
  simp only [Bool.and_eq_true, decide_eq_true_eq] at h
  exact ⟨x.toNat, by omega, by omega⟩
theorem pin_nat {P a : Nat} (h : a < P) : pin P (a : Int) = true := by
  unfold pin
  simp only [Bool.and_eq_true, decide_eq_true_eq]
  omega
theorem pin_no {P : Nat} {x : Int} (h : pin P x = false) : x < 0 ∨ (0 ≤ x ∧ (P : Int) ≤ x) := by
  unfold pin at h
  simp only [Bool.and_eq_false_imp, decide_eq_true_eq, decide_eq_false_iff_not] at h
  by_cases h0 : x < 0
  · exact Or.inl h0
  · exact Or.inr ⟨by omega, by have := h (by omega); omega⟩
section
variable {w : World} {s P T : Nat} {f : Nat → UInt8} {O : Nat → Prop}
theorem place_yes (h : Sp w s P T f O) (a : Nat) (ha : a < P) (b : Nat) (hb : b = a * 4096) :
    Calls Try.prog 30 #[.pointer (some ⟨s, 0, none⟩), .int .i64 (a : Int)] w fun e w' => e = .returned (.tuple #[.int .u64 (b : Int), .bool true]) ∧ w = w' := by
  have hP := h.top
  have h1 : decide ((a : Int) < 0) = false := by simp
  have h2 : decide (P ≤ a) = false := by simpa using ha
  have HH := Lib.hid (And.intro h hb)
  clear h hb
  go_enter Try.func30, Try.ntmps30
  go_wp2_with (go_at_call 49; refine (spages_any HH.out.1).mono ?_; rintro e w' ⟨rfl, rfl⟩)
  go_ret2
  exact ⟨ret2 (by have := HH.out.2; omega) rfl, rfl⟩
theorem place_no (h : Sp w s P T f O) (x : Int) (hx : pin P x = false) :
    Calls Try.prog 30 #[.pointer (some ⟨s, 0, none⟩), .int .i64 x] w fun e w' => e = .returned (.tuple #[.int .u64 0, .bool false]) ∧ w = w' := by
  rcases pin_no hx with h0 | ⟨h0, h1⟩
  · have d0 : decide (x < 0) = true := by simpa using h0
    clear h0 hx
    go_enter Try.func30, Try.ntmps30
    go_wp2_with (go_at_call 49; refine (spages_any h).mono ?_; rintro e w' ⟨rfl, rfl⟩)
    go_ret2
    exact ⟨rfl, rfl⟩
  · have d0 : decide (x < 0) = false := by simpa using h0
    have d1 : decide ((P : Int) ≤ x) = true := by simpa using h1
    clear h0 h1 hx
    go_enter Try.func30, Try.ntmps30
    go_wp2_with (go_at_call 49; refine (spages_any h).mono ?_; rintro e w' ⟨rfl, rfl⟩)
    go_ret2
    exact ⟨rfl, rfl⟩
end
theorem place_nil (w : World) : Calls Try.prog 30 #[.pointer none, .int .i64 0] w fun e w' => e = .returned (.tuple #[.int .u64 0, .bool false]) ∧ w = w' := by
  go_enter Try.func30, Try.ntmps30
  go_wp2_with (go_at_call 49; refine (pages_nil _).mono ?_; rintro e w' ⟨rfl, rfl⟩)
  go_ret2
  exact ⟨rfl, rfl⟩

/-- 'rest[i:]', by a number with a sign. -/
theorem cut_i (g d n i : Nat) (hi : i ≤ n) : ∃ A', (∀ W, (Instr.slice 34 (.slice (some ⟨g, d, none⟩) n n) (some (.int .i64 (i : Int))) none none).run Try.prog W = .ok (.slice A' (n - i) (n - i)) W) ∧ (i < n → A' = some ⟨g, d + i, none⟩) := by
  refine ⟨if n = i then some ⟨g, d, none⟩ else (some (⟨g, d, none⟩ : Addr)).map (·.add (i * 1)), fun W => by rw [run_slice_l W 34 (some ⟨g, d, none⟩) n n und22 .i64 i (by omega) (by omega), elem22, size5]; simp only [Result.andThen_ok, sliced, Int.toNat_natCast], fun h => ?_⟩
  rw [if_neg (by omega)]
  simp only [Option.map_some, Nat.mul_one]
  unfold Addr.add
  split <;> simp_all

/-- What 'join' has laid behind some parts. -/
def Jn (w wr : World) (g k : Nat) (r : Value) (l1 l2 l3 : List UInt8) : Prop :=
  Below w.heap.size w wr ∧ g < wr.heap.size ∧
  ((k = 0 ∧ r = .slice (some ⟨g, 0, none⟩) 32 32 ∧ Own wr g ([] ++ List.replicate 32 0)) ∨ (k = 1 ∧ r = .slice (some ⟨g, 8, none⟩) 24 24 ∧ Own wr g (l1 ++ List.replicate 24 0)) ∨
   (k = 2 ∧ r = .slice (some ⟨g, 16, none⟩) 16 16 ∧ Own wr g ((l1 ++ l2) ++ List.replicate 16 0)) ∨ (k = 3 ∧ Own wr g (((l1 ++ l2) ++ l3) ++ List.replicate 0 0)))
theorem jn_step {wr : World} {g d m r : Nat} {pre l : List UInt8} (ho : Own wr g (pre ++ List.replicate m 0)) (hd : pre.length = d) (hm : m = l.length + r) : Own (wr.setCells g d (u8s l)) g ((pre ++ l) ++ List.replicate r 0) := by
  have h := ho.setCells d l (by simp; omega)
  rw [splice_fill pre l d m r hd hm] at h
  exact h
theorem jn_copy {wr : World} {g d m n c : Nat} {pre l : List UInt8} {A : Option Addr} (ho : Own wr g (pre ++ List.replicate m 0)) (hd : pre.length = d) (hn : l.length = n) (hm : n ≤ m) (h0 : 0 < n) (hl : Lies wr A (u8s l)) (ty : TypeId) :
    (Builtin.copy_ #[34, 34] ty #[.slice (some ⟨g, d, none⟩) m m, .slice A n c]).run Try.prog wr = .ok (.int .i64 (n : Int)) (wr.setCells g d (u8s l)) := by
  have h := copy_own wr g d m m _ ho A n c l l (by omega) (by simp; omega) hl (by rw [List.take_length]) (by omega) ty
  rw [hn] at h
  exact h
theorem jn_below {w wr : World} {g : Nat} (hb : Below w.heap.size w wr) (hg : w.heap.size ≤ g) (d : Nat) (l : List UInt8) : Below w.heap.size w (wr.setCells g d (u8s l)) := by
  have k := (Kept.of_below hb (fun b => b = g)).setCells (g := g) (fun _ => rfl) (u8s l) d
  exact k.below (Nat.le_refl _) (fun i e => by omega)
theorem jn_size {wr : World} {g : Nat} (hg : g < wr.heap.size) (d : Nat) (l : List UInt8) : g < (wr.setCells g d (u8s l)).heap.size :=
  Nat.lt_of_lt_of_le hg ((Kept.refl wr (fun b => b = g)).setCells (g := g) (fun _ => rfl) (u8s l) d).size

set_option maxHeartbeats 2000000 in
theorem join_any (w : World) (gp gb : Nat) (A1 A2 A3 : Option Addr) (c1 c2 c3 : Nat) (l1 l2 l3 : List UInt8) (hgb : gb = w.heap.size) (n1 : l1.length = 8) (n2 : l2.length = 8) (n3 : l3.length = 16)
    (p1 : w.cell? ⟨gp, 0, none⟩ = some (.slice A1 8 c1)) (p2 : w.cell? ⟨gp, 1, none⟩ = some (.slice A2 8 c2)) (p3 : w.cell? ⟨gp, 2, none⟩ = some (.slice A3 16 c3)) (h1 : Lies w A1 (u8s l1)) (h2 : Lies w A2 (u8s l2)) (h3 : Lies w A3 (u8s l3)) :
    Calls Try.prog 50 #[.slice (some ⟨gp, 0, none⟩) 3 3] w fun e w' => e = .returned (.slice (some ⟨gb, 0, none⟩) 32 32) ∧ Own w' gb ((l1 ++ l2) ++ l3) ∧ Below w.heap.size w w' ∧ gb < w'.heap.size := by
  have HP := Lib.hid (And.intro p1 (And.intro p2 p3))
  have HL := Lib.hid (And.intro h1 (And.intro h2 h3))
  have HN := Lib.hid (And.intro n1 (And.intro n2 n3))
  have hmk := fun W => make22 32 32 (by omega) (by omega) W
  have st : Jn w (w.alloc (.cells (madeCells #[.int .u8 0] 32) 5)) gb 0 (.slice (some ⟨gb, 0, none⟩) 32 32) l1 l2 l3 :=
    ⟨(Below.refl _ _).alloc (Nat.le_refl _) _, by rw [hgb]; simp, Or.inl ⟨rfl, rfl, by rw [hgb]; exact own_made 32 w⟩⟩
  have ST := Lib.hid st
  have HG := Lib.hid hgb
  clear p1 p2 p3 h1 h2 h3 n1 n2 n3 st
  go_enter Try.func50, Try.ntmps50
  go_wp2_with fail
  rw [← hgb]
  clear hgb
  generalize w.alloc (.cells (madeCells #[.int .u8 0] 32) 5) = w1 at *
  clear hmk
  go_loopw [4, 6, 11] (fun r p i wr => ∃ k : Nat, k ≤ 3 ∧ i = .int .i64 (k : Int) ∧ Jn w wr gb k r l1 l2 l3) (fun r p i _ => 3 - (intOf i).toNat)
  case atStart => exact ⟨0, by omega, rfl, ST.out⟩
  case round =>
    obtain ⟨k, hk, rfl, hb, hgl, hj⟩ := hrel
    rcases hj with ⟨rfl, rfl, ho⟩ | ⟨rfl, rfl, ho⟩ | ⟨rfl, rfl, ho⟩ | ⟨rfl, ho⟩
    · have q := (hb.cell (lt_of_cell HP.out.1)).trans HP.out.1
      have hco := fun ty => jn_copy (c := c1) (d := 0) ho rfl HN.out.1 (by omega) (by omega) (HL.out.1.below hb) ty
      obtain ⟨A', hcut, hA'⟩ := cut_i gb 0 32 8 (by omega)
      obtain rfl := hA' (by omega)
      have HQ := Lib.hid (show Jn w (wr.setCells gb 0 (u8s l1)) gb 1 (.slice (some ⟨gb, 8, none⟩) 24 24) l1 l2 l3 from ⟨jn_below hb (by rw [HG.out]; omega) _ _, jn_size hgl _ _, Or.inr (Or.inl ⟨rfl, rfl, jn_step (pre := []) ho rfl (by have := HN.out.1; omega)⟩)⟩)
      clear ho hb hgl hA' ST
      go_wp2_with fail
      go_roundw
      case rel => exact ⟨1, by omega, rfl, HQ.out⟩
      case measure => simp [intOf]
    · have q := (hb.cell (lt_of_cell HP.out.2.1)).trans HP.out.2.1
      have hco := fun ty => jn_copy (c := c2) (d := 8) ho HN.out.1 HN.out.2.1 (by omega) (by omega) (HL.out.2.1.below hb) ty
      obtain ⟨A', hcut, hA'⟩ := cut_i gb 8 24 8 (by omega)
      obtain rfl := hA' (by omega)
      have HQ := Lib.hid (show Jn w (wr.setCells gb 8 (u8s l2)) gb 2 (.slice (some ⟨gb, 16, none⟩) 16 16) l1 l2 l3 from ⟨jn_below hb (by rw [HG.out]; omega) _ _, jn_size hgl _ _, Or.inr (Or.inr (Or.inl ⟨rfl, rfl, jn_step ho HN.out.1 (by have := HN.out.2.1; omega)⟩))⟩)
      clear ho hb hgl hA' ST
      go_wp2_with fail
      go_roundw
      case rel => exact ⟨2, by omega, rfl, HQ.out⟩
      case measure => simp [intOf]
    · have q := (hb.cell (lt_of_cell HP.out.2.2)).trans HP.out.2.2
      have hco := fun ty => jn_copy (c := c3) (d := 16) ho (by have := HN.out; simp; omega) HN.out.2.2 (by omega) (by omega) (HL.out.2.2.below hb) ty
      obtain ⟨A', hcut, hA'⟩ := cut_i gb 16 16 16 (by omega)
      have HQ := Lib.hid (show ∀ r, Jn w (wr.setCells gb 16 (u8s l3)) gb 3 r l1 l2 l3 from fun r => ⟨jn_below hb (by rw [HG.out]; omega) _ _, jn_size hgl _ _, Or.inr (Or.inr (Or.inr ⟨rfl, jn_step ho (by have := HN.out; simp; omega) (by have := HN.out.2.2; omega)⟩))⟩)
      clear ho hb hgl hA' ST
      go_wp2_with fail
      go_roundw
      case rel => exact ⟨3, by omega, rfl, HQ.out _⟩
      case measure => simp [intOf]
    · have HO := Lib.hid (show Own wr gb ((l1 ++ l2) ++ l3) ∧ Below w.heap.size w wr ∧ gb < wr.heap.size from ⟨by rw [List.replicate_zero, List.append_nil] at ho; exact ho, hb, hgl⟩)
      clear ho hb hgl ST
      go_wp2_with fail
      go_ret
      exact ⟨rfl, HO.out⟩
end Go.Proofs.Ytacognejefeboaa
