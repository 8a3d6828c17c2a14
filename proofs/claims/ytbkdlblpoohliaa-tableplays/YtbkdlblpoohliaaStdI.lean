/-
  A table of ints beside what a law was handed.
-/
import Derived.Test.YtbkdlblpoohliaaOpsI
import Derived.Test.YtbkdlblpoohliaaAddI
import Derived.Test.YtbkdlblpoohliaaW13
import Derived.Test.YtbkdlblpoohliaaDropI
import Derived.Test.YtbkdlblpoohliaaLenI
import Derived.Test.YtbkdlblpoohliaaHndI
namespace Go.Proofs.Ytbkdlblpoohliaa.TI
open Go.ChangeShapes Go.WideShapes Go.ChangeAt Go.RowKit Go.Deep T13
set_option linter.unusedVariables false
set_option maxRecDepth 20000

structure Std (w0 w : World) (t : Nat) (K : Int) (S : M.Tt Th) (Q : Nat → Prop) (k : Nat) : Prop where
  has : Has w w0.heap.size t K S Q
  ok : S.Ok K
  bel : Below w0.heap.size w0 w
  len : S.s.length ≤ k
section
variable {w0 w w' : World} {t k k' : Nat} {K : Int} {S S' : M.Tt Th} {Q O : Nat → Prop}
theorem Std.kept (h : Std w0 w t K S Q k) (hk : Kept w w' O) (hO : ∀ x, Q x → ¬ O x) (hl : ∀ x, O x → w0.heap.size ≤ x) : Std w0 w' t K S Q k :=
  ⟨h.has.kept hk hO, h.ok, h.bel.trans (hk.below h.bel.size hl), h.len⟩
theorem Std.below (h : Std w0 w t K S Q k) (hb : Below w.heap.size w w') : Std w0 w' t K S Q k := ⟨h.has.below hb, h.ok, below_call h.bel hb, h.len⟩
theorem Std.more (h : Std w0 w t K S Q k) (hk : k ≤ k') : Std w0 w t K S Q k' := ⟨h.has, h.ok, h.bel, Nat.le_trans h.len hk⟩
theorem Std.got (h : Std w0 w t K S Q k) (g : Got w w' w0.heap.size t K S' Q) (hok : S'.Ok K) (hl : S'.s.length ≤ k') : Std w0 w' t K S' (Wid Q w w') k' :=
  ⟨g.1, hok, h.bel.trans (g.2.below h.bel.size h.has.old), hl⟩
/-- Something is appended to a list of one's own. -/
theorem Std.app {W : World} {e : TypeId} {A A' : Option Addr} {n c n' c' : Nat} {xs ys : List Value} (h : Std w0 W t K S Q k) (hl : Lst W e w0.heap.size A n c xs Q) (hk : Kept W w' (rowD A)) (hrow : w'.ownsRow w0.heap.size e 1 (.slice A' n' c') n' ys) (hat : ∀ x, rowD A' x → rowD A x ∨ x = W.heap.size) :
    Std w0 w' t K S Q k ∧ Lst w' e w0.heap.size A' n' c' ys Q :=
  ⟨h.kept hk (fun x hx hA => hl.off x hA hx) (fun x hx => (row_low hl.row hx).1), hrow, fun x hx hq => (hat x hx).elim (fun e => hl.off x e hq) (fun e => by have := h.has.lt x hq; omega)⟩
theorem s_new (h : Below w0.heap.size w0 w) (K : Int) :
    Calls Try.prog 9 #[.int .i64 K] w fun e w' => ∃ t, e = .returned (.pointer (some ⟨t, 0, none⟩)) ∧ Std w0 w' t K M.Tt.new (fun x => x = t) 0 ∧ Below w.heap.size w w' ∧ w.heap.size ≤ t := by
  refine (new_any w K w0.heap.size h.size).mono ?_
  rintro e w' ⟨t, rfl, hh, hb, ht⟩
  exact ⟨t, rfl, ⟨hh, M.ok_new K, below_call h hb, by simp [M.Tt.new]⟩, hb, ht⟩
theorem s_add (h : Std w0 w t K S Q k) (hk : k ≤ 1000) (v : Th) (hK : M.kOk K) :
    Calls Try.prog 11 #[.pointer (some ⟨t, 0, none⟩), (.int .i64 (v))] w fun e w' => e = .returned (.int .u64 (M.hpV K (S.at' : Int) (S.gn : Int))) ∧ Std w0 w' t K (S.put v) (Wid Q w w') (k + 1) ∧ Kept w w' Q := by
  have hl := h.len
  have ha := M.add_len h.ok v
  rw [M.Tt.add, if_pos hK] at ha
  refine (add_yes h.has h.ok v hK (by omega)).mono ?_
  rintro e w' ⟨rfl, g⟩
  exact ⟨rfl, h.got g (M.ok_put h.ok hK v) (by omega), g.2⟩
theorem s_drop_some (h : Std w0 w t K S Q k) (hk : k ≤ 1000) (hh i : Nat) (hlt : hh < 18446744073709551616) (hi : S.liv K hh = some i) :
    Calls Try.prog 17 #[.pointer (some ⟨t, 0, none⟩), .int .u64 (hh : Int)] w fun e w' => e = .returned (.bool true) ∧ Std w0 w' t K (S.drop z0 i) (Wid Q w w') k ∧ Kept w w' Q := by
  have hl := h.len
  have hf := h.ok.f_le
  obtain ⟨_, _, x, hx, hu, _, _⟩ := M.liv_some hi
  refine (drop_some h.has hh i hlt hi (fun x hx => h.ok.gn _ x hx) (by omega)).mono ?_
  rintro e w' ⟨rfl, g⟩
  exact ⟨rfl, h.got g (M.ok_drop h.ok hx hu z0) (by rw [M.drop_len]; exact hl), g.2⟩
theorem s_drop (h : Std w0 w t K S Q k) (hk : k ≤ 1000) (hh : Nat) (hlt : hh < 18446744073709551616) :
    Calls Try.prog 17 #[.pointer (some ⟨t, 0, none⟩), .int .u64 (hh : Int)] w fun e w' => e = .returned (.bool (S.liv K hh).isSome) ∧ Std w0 w' t K (S.dropH K z0 hh) (Wid Q w w') k ∧ Kept w w' Q := by
  unfold M.Tt.dropH
  cases hi : S.liv K hh with
  | none =>
    refine (drop_none h.has hh hlt hi).mono ?_
    rintro e w' ⟨rfl, b⟩
    exact ⟨rfl, ⟨h.has.wid b, h.ok, below_call h.bel b, h.len⟩, Kept.of_below b _⟩
  | some i =>
    refine (s_drop_some h hk hh i hlt hi).mono ?_
    rintro e w' ⟨rfl, g⟩
    exact ⟨rfl, g⟩
theorem s_len (h : Std w0 w t K S Q k) (hk : k ≤ 1000) (r : Int) (hr : (S.s.length : Int) - (S.f.length : Int) = r) :
    Calls Try.prog 18 #[.pointer (some ⟨t, 0, none⟩)] w fun e w' => e = .returned (.int .i64 r) ∧ Below w.heap.size w w' := by
  have hl := h.len
  subst hr
  exact len_any h.has h.ok.f_le (by omega)
theorem s_get (h : Std w0 w t K S Q k) (hh : Nat) (hlt : hh < 18446744073709551616) :
    Calls Try.prog 12 #[.pointer (some ⟨t, 0, none⟩), .int .u64 (hh : Int)] w fun e w' => e = .returned (.tuple #[(.int .i64 ((S.get K hh).getD z0)), .bool (S.liv K hh).isSome]) ∧ Below w.heap.size w w' := by
  unfold M.Tt.get
  cases hi : S.liv K hh with
  | none => exact get_none h.has hh hlt hi
  | some i =>
    obtain ⟨_, _, x, hx, hu, _, _⟩ := M.liv_some hi
    simp only [hx, Option.map_some, Option.getD_some, Option.isSome_some]
    exact get_some h.has hh i hlt hi hx
theorem s_set (h : Std w0 w t K S Q k) (hh : Nat) (hlt : hh < 18446744073709551616) (v : Th) :
    Calls Try.prog 15 #[.pointer (some ⟨t, 0, none⟩), .int .u64 (hh : Int), (.int .i64 (v))] w fun e w' => e = .returned (.bool (S.liv K hh).isSome) ∧ Std w0 w' t K (S.setH K hh v) (Wid Q w w') k ∧ Kept w w' Q := by
  have hl := h.len
  have hok := M.ok_setH h.ok hh v
  have hsl := M.setH_len (S := S) (K := K) hh v
  cases hi : S.liv K hh with
  | none =>
    refine (set_none h.has hh hlt v hi).mono ?_
    rintro e w' ⟨rfl, b⟩
    have : S.setH K hh v = S := by unfold M.Tt.setH; rw [hi]
    rw [this]
    exact ⟨rfl, ⟨h.has.wid b, h.ok, below_call h.bel b, h.len⟩, Kept.of_below b _⟩
  | some i =>
    have e1 : S.setH K hh v = S.set i v := by unfold M.Tt.setH; rw [hi]
    rw [e1] at hok hsl ⊢
    refine (set_some h.has hh i hlt v hi).mono ?_
    rintro e w' ⟨rfl, g⟩
    exact ⟨rfl, h.got g hok (by omega), g.2⟩
theorem s_add_any (h : Std w0 w t K S Q k) (hk : k ≤ 1000) (hr : -9223372036854775808 ≤ K) (hr' : K ≤ 9223372036854775807) (v : Th) (p : Int) (hp : M.hpV K (S.at' : Int) (S.gn : Int) = p) :
    Calls Try.prog 11 #[.pointer (some ⟨t, 0, none⟩), (.int .i64 (v))] w fun e w' => e = .returned (.int .u64 p) ∧ Std w0 w' t K (S.add K v) (Wid Q w w') (k + 1) ∧ Kept w w' Q := by
  subst hp
  by_cases hK : M.kOk K
  · rw [M.Tt.add, if_pos hK]
    exact s_add h hk v hK
  · rw [M.Tt.add, if_neg hK, M.hpV_no _ _ _ (fun e => hK ⟨e.1, e.2.1⟩)]
    refine (add_no h.has v hr hr' hK).mono ?_
    rintro e w' ⟨rfl, rfl⟩
    exact ⟨rfl, ⟨h.has.wid (Below.refl _ _), h.ok, h.bel, Nat.le_succ_of_le h.len⟩, Kept.refl _ _⟩
theorem s_hnd (h : Std w0 w t K S Q k) (hk : k ≤ 1000) :
    Calls Try.prog 20 #[.pointer (some ⟨t, 0, none⟩)] w fun e w' => ∃ A' n' c', e = .returned (.slice A' n' c') ∧ w'.ownsRow w.heap.size 31 1 (.slice A' n' c') n' (hds (S.hs K)) ∧ Below w.heap.size w w' := by
  have hl := h.len
  exact hnd_any h.has h.ok (by omega)
end
end Go.Proofs.Ytbkdlblpoohliaa.TI
