/-
  What Load, Store, Zero and Copy of a space come to.
-/
import Derived.Test.YtacognejefeboaaSt
namespace Go.Proofs.Ytacognejefeboaa
open Go.ChangeShapes Go.WideShapes Go.ChangeAt Go.RowKit
set_option linter.unusedVariables false
set_option maxRecDepth 20000

/-- A space in memory, by its bytes and its ticks; O: the blocks that it may write. -/
def Sp (w : World) (s P T : Nat) (f : Nat → UInt8) (O : Nat → Prop) : Prop :=
  ∃ m G, IsSp w s m P T G ∧ bytesOf G = f ∧ (∀ b, Mine s m G b → O b) ∧ ∀ b, O b → b < w.heap.size
section
variable {w w' : World} {s P T : Nat} {f : Nat → UInt8} {O O' : Nat → Prop}
theorem Sp.kept (h : Sp w s P T f O) (hk : Kept w w' O') (hO : ∀ b, O b → ¬ O' b) : Sp w' s P T f O := by
  obtain ⟨m, G, h1, h2, h3, h4⟩ := h
  exact ⟨m, G, h1.kept hk (fun b hb => hO b (h3 b hb)), h2, h3, fun b hb => Nat.lt_of_lt_of_le (h4 b hb) hk.size⟩
theorem Sp.below (h : Sp w s P T f O) (hb : Below w.heap.size w w') : Sp w' s P T f O := h.kept (Kept.of_below hb (fun _ => False)) (fun _ _ h => h)
theorem Sp.alloc (h : Sp w s P T f O) (o : Obj) : Sp (w.alloc o) s P T f O := h.kept ((Kept.refl w (fun _ => False)).alloc o) (fun _ _ h => h)
theorem Sp.drew (h : Sp w s P T f O) : Sp w.drew s P T f O := h.kept (Kept.refl w (fun _ => False)).drew (fun _ _ h => h)
theorem Sp.drewN (h : Sp w s P T f O) (n : Nat) : Sp (w.drewN n) s P T f O := h.kept ((Kept.refl w (fun _ => False)).drewN n) (fun _ _ h => h)
theorem Sp.top (h : Sp w s P T f O) : 1 ≤ P ∧ P ≤ 1048576 := by obtain ⟨m, G, h1, _⟩ := h; exact ⟨h1.pos, h1.top⟩
theorem Sp.lt (h : Sp w s P T f O) {b : Nat} (hb : O b) : b < w.heap.size := by obtain ⟨m, G, h1, _, _, h4⟩ := h; exact h4 b hb
theorem Sp.slt (h : Sp w s P T f O) : s < w.heap.size := by obtain ⟨m, G, h1, _⟩ := h; exact h1.slt
theorem Sp.mono (h : Sp w s P T f O) (hO : ∀ b, O b → O' b) (hl : ∀ b, O' b → b < w.heap.size) : Sp w s P T f O' := by
  obtain ⟨m, G, h1, h2, h3, h4⟩ := h
  exact ⟨m, G, h1, h2, fun b hb => hO b (h3 b hb), hl⟩
end
theorem sticks_any {w : World} {s P T : Nat} {f : Nat → UInt8} {O : Nat → Prop} (h : Sp w s P T f O) :
    Calls Try.prog 23 #[.pointer (some ⟨s, 0, none⟩)] w fun e w' => e = .returned (.int .i64 (T : Int)) ∧ w = w' := by obtain ⟨m, G, h1, _⟩ := h; exact ticks_any h1
theorem spages_any {w : World} {s P T : Nat} {f : Nat → UInt8} {O : Nat → Prop} (h : Sp w s P T f O) :
    Calls Try.prog 49 #[.pointer (some ⟨s, 0, none⟩)] w fun e w' => e = .returned (.int .i64 (P : Int)) ∧ w = w' := by obtain ⟨m, G, h1, _⟩ := h; exact pages_any h1
theorem ssize_any {w : World} {s P T : Nat} {f : Nat → UInt8} {O : Nat → Prop} (h : Sp w s P T f O) :
    Calls Try.prog 59 #[.pointer (some ⟨s, 0, none⟩)] w fun e w' => e = .returned (.int .u64 ((P * 4096 : Nat) : Int)) ∧ w = w' := by obtain ⟨m, G, h1, _⟩ := h; exact size_any h1
theorem swithin_any {w : World} {s P T : Nat} {f : Nat → UInt8} {O : Nat → Prop} (h : Sp w s P T f O) (a n : Nat) (ha : a < 18446744073709551616) (hn : n < 18446744073709551616) :
    Calls Try.prog 41 #[.pointer (some ⟨s, 0, none⟩), .int .u64 a, .int .u64 n] w fun e w' => e = .returned (.bool (M.inB a n (P * 4096))) ∧ w = w' := by obtain ⟨m, G, h1, _⟩ := h; exact within_any h1 a n ha hn
theorem stouch_any {w : World} {s P T : Nat} {f : Nat → UInt8} {O : Nat → Prop} (h : Sp w s P T f O) (a n : Nat) (ha : a + n ≤ 4294967296) (hT : T + M.touched a n < 9223372036854775808) :
    Calls Try.prog 44 #[.pointer (some ⟨s, 0, none⟩), .int .u64 a, .int .u64 n] w fun e w' => e = .returned (.tuple #[]) ∧ Sp w' s P (T + M.touched a n) f O ∧ Kept w w' O := by
  obtain ⟨m, G, h1, h2, h3, h4⟩ := h
  refine (touch_any h1 a n ha hT).mono ?_
  rintro e w' ⟨rfl, h5, h6⟩
  have hs : ∀ i, i = s → O i := fun i e => h3 i (Or.inl e)
  exact ⟨rfl, ⟨m, G, h5, h2, h3, fun b hb => Nat.lt_of_lt_of_le (h4 b hb) h6.size⟩, h6.mono (fun i _ e => hs i e)⟩
theorem snew_any (x : Int) (P : Nat) (hP : (P : Int) = min (max x 1) 1048576) (w : World) :
    Calls Try.prog 10 #[.int .i64 x] w fun e w' => ∃ s, e = .returned (.pointer (some ⟨s, 0, none⟩)) ∧ Sp w' s P 0 (fun _ => 0) (fun b => w.heap.size ≤ b ∧ b < w'.heap.size) ∧ Below w.heap.size w w' := by
  refine (new_any x P hP w).mono ?_
  rintro e w' ⟨s, m, rfl, h1, h2, h3, h4⟩
  refine ⟨s, rfl, ⟨m, _, h1, M.flat_empty, fun b hb => ⟨?_, h1.mine_lt hb⟩, fun b hb => hb.2⟩, h4⟩
  rcases hb with rfl | rfl | ⟨k, l, e⟩
  · exact h2
  · exact h3
  · cases e

theorem inB_in {a n z : Nat} (h : M.inB a n z = true) : a + n ≤ z := by
  unfold M.inB M.addB M.addV at h
  simp only [Bool.and_eq_true, decide_eq_true_eq] at h
  obtain ⟨h1, h2⟩ := h
  rw [if_pos h1] at h2
  exact h2

theorem makeU (z : Nat) (h : z ≤ 140737488355328) (W : World) :
    (Instr.makeSlice 34 (.int .u64 (z : Int)) (.int .u64 (z : Int))).run Try.prog W = .ok (.slice (some ⟨W.heap.size, 0, none⟩) z z) (W.alloc (.cells (madeCells #[.int .u8 0] z) 5)) :=
  run_make_row' 34 5 (.int .u8 0) 1 Try.underlying34 (by kernel_rfl) rfl .u64 .u64 z (by omega) (by omega) W
theorem call33 (args : Array Value) (w : World) : (callFunc 45 args).run Try.prog w = .ok (.enter 45 args) w := by kernel_rfl
theorem call36 (args : Array Value) (w : World) : (callFunc 43 args).run Try.prog w = .ok (.enter 43 args) w := by kernel_rfl
theorem call37 (args : Array Value) (w : World) : (callFunc 55 args).run Try.prog w = .ok (.enter 55 args) w := by kernel_rfl

/-- 'each' with Load's closure. -/
theorem each_load {w : World} {s m P T : Nat} {G : Pgs} (h : IsSp w s m P T G) (bs br gb a n : Nat) (hbs : w.cell? ⟨bs, 0, none⟩ = some (.pointer (some ⟨s, 0, none⟩)))
    (hbr : w.cell? ⟨br, 0, none⟩ = some (.slice (some ⟨gb, 0, none⟩) n n)) (hfr : w.frozen? ⟨br, 0, none⟩ = false) (ho : Own w gb (List.replicate n 0)) (hgb : gb < w.heap.size)
    (hin : a + n ≤ P * 4096) (n1 : gb ≠ br) (n2 : bs ≠ br) (n3 : bs ≠ gb) (n4 : ¬ Mine s m G gb) (n5 : ¬ Mine s m G br) :
    Calls Try.prog 42 #[.int .u64 a, .int .u64 n, .func (.func 45) #[] #[.pointer (some ⟨bs, 0, none⟩), .pointer (some ⟨br, 0, none⟩)]] w
      fun e w' => e = .returned (.tuple #[]) ∧ Own w' gb (M.rd (bytesOf G) a n) ∧ Kept w w' (fun b => b = gb ∨ b = br) := by
  have ht := h.top
  have hbrl := lt_of_cell hbr
  have hbsl := lt_of_cell hbs
  refine (each_any 45 _ a n (by omega) call33 (fun d wr => d ≤ n ∧ Kept w wr (fun b => b = gb ∨ b = br) ∧ Own wr gb (M.rd (bytesOf G) a d ++ List.replicate (n - d) 0) ∧
    ∃ A, wr.cell? ⟨br, 0, none⟩ = some (.slice A (n - d) (n - d)) ∧ (0 < n - d → A = some ⟨gb, d, none⟩) ∧ wr.frozen? ⟨br, 0, none⟩ = false) w ?_ ?_ ?_).mono ?_
  · exact ⟨Nat.zero_le _, Kept.refl _ _, by rw [M.rd_zero]; exact ho, _, hbr, fun _ => rfl, hfr⟩
  · rintro d wr wr' ⟨hd, hk, ho, A, hA, hA', hf⟩ hb
    have hl := lt_of_cell hA
    exact ⟨hd, hk.trans (Kept.of_below hb _) (fun _ _ h => h), ho.keep (hb.block gb (Nat.lt_of_lt_of_le hgb hk.size)), A, (hb.cell (p := ⟨br, 0, none⟩) hl).trans hA, hA', (World.frozen?_of_block (hb.block br hl)).trans hf⟩
  · rintro d wr hd ⟨hdn, hk, ho, A, hA, hA', hf⟩ c hc
    have hMk : ∀ b, Mine s m G b → ¬ (b = gb ∨ b = br) := fun b hb e => by
      rcases e with rfl | rfl
      · exact n4 hb
      · exact n5 hb
    have hAe := hA' (by omega)
    subst hAe
    have := load1_any (h.kept hk hMk) bs br gb (hk.cell_some hbs (fun e => e.elim n3 n2)) (M.rd (bytesOf G) a d) d (n - d) (n - d - c) (M.rd_length _ _ _) hA hf ho ((a + d) / 4096) ((a + d) % 4096) c (by omega) (by omega) (by omega) (by omega) n1 n2 n3 n4 n5
    refine Calls.mono this ?_
    rintro e w' ⟨rfl, A2, hA2, hA2', hf2, ho2, hk2⟩
    refine ⟨rfl, by omega, hk.trans hk2 (fun _ _ h => h), ?_, A2, by rw [hA2]; simp only [Option.some.injEq, Value.slice.injEq, true_and]; omega, fun h => hA2' (by omega), hf2⟩
    have e1 : (a + d) / 4096 * 4096 + (a + d) % 4096 = a + d := by omega
    rw [e1, ← M.rd_add, show n - d - c = n - (d + c) by omega] at ho2
    exact ho2
  · rintro e w' ⟨rfl, _, hk, ho, _⟩
    rw [Nat.sub_self, List.replicate_zero, List.append_nil] at ho
    exact ⟨rfl, ho, hk⟩
end Go.Proofs.Ytacognejefeboaa
