/-
  What the laws of layer 8 say of bytes, and of slices beside a space.
-/
import Derived.Test.YtacognejefeboaaArg8
namespace Go.Proofs.Ytacognejefeboaa
open Go.ChangeShapes Go.WideShapes Go.ChangeAt Go.RowKit
set_option linter.unusedVariables false
set_option maxRecDepth 20000

namespace M
theorem wr_back (f : Nat → UInt8) (q : Nat) (x : UInt8) : wr (wr f q [x]) q [f q] = f := by
  funext i
  by_cases e : i = q
  · subst e
    have := wr_in (wr f i [x]) i [f i] 0 (by simp)
    simpa using this
  · rw [wr_out _ _ _ _ (by simp; omega), wr_out _ _ _ _ (by simp; omega)]
theorem rd_one (f : Nat → UInt8) (q : Nat) : rd f q 1 = [f q] := by simp [rd, List.range_succ]
theorem mark_at (f : Nat → UInt8) (a p k o n t : Nat) (ht : t < 8) : wr f a (hd p k o n) (a + t) = mark[t]'(by rw [mark_length]; exact ht) := by
  rw [wr_in _ _ _ _ (by rw [hd_length]; omega)]
  unfold hd
  rw [List.getElem_append_left]
/-- One of the first eight bytes is another one. -/
theorem isH_poked (f : Nat → UInt8) (a p k o n t : Nat) (ht : t < 8) (x : UInt8) (hx : x ≠ wr f a (hd p k o n) (a + t)) : isH (rd (wr (wr f a (hd p k o n)) (a + t) [x]) a 32) = false := by
  refine isH_other (fun h => hx ?_)
  rw [mark_at f a p k o n t ht]
  have e : ((rd (wr (wr f a (hd p k o n)) (a + t) [x]) a 32).take 8)[t]? = some (mark[t]'(by rw [mark_length]; exact ht)) := by
    rw [h]
    exact List.getElem?_eq_getElem _
  rw [List.getElem?_take_of_lt ht, List.getElem?_eq_getElem (by rw [rd_length]; omega), rd_get] at e
  injection e with e
  rw [← e]
  have := wr_in (wr f a (hd p k o n)) (a + t) [x] 0 (by simp)
  rw [Nat.add_zero] at this
  rw [this]
  rfl
end M
section
variable {w0 w w' : World} {s P T : Nat} {f : Nat → UInt8} {O O' : Nat → Prop}
theorem u8_add (b y : UInt8) : ∃ x : UInt8, (x.toNat : Int) = IntKind.u8.wrap ((b.toNat : Int) + (y.toNat : Int)) ∧ (y.toNat ≠ 0 → x ≠ b) := by
  refine ⟨b + y, ?_, fun h e => ?_⟩
  · rw [IntKind.wrap_u8, UInt8.toNat_add]
    omega
  · have e2 : (b + y).toNat = b.toNat := by rw [e]
    rw [UInt8.toNat_add] at e2
    have h1 := b.toNat_lt
    have h2 := y.toNat_lt
    omega
theorem u8_of {y : Nat} (h : y < 256) : ∃ b : UInt8, b.toNat = y := ⟨UInt8.ofNat y, by rw [UInt8.toNat_ofNat']; omega⟩
/-- A byte of a row that was loaded is another one. -/
theorem At.poke {g : Nat} {b : UInt8} (h : At w0 w s P T f O) (l : Loose w O g [b]) (hg : w0.heap.size ≤ g) (x : UInt8) :
    At w0 (w.setCell ⟨g, 0, none⟩ (.int .u8 (x.toNat : Int))) s P T f O ∧ Loose (w.setCell ⟨g, 0, none⟩ (.int .u8 (x.toNat : Int))) O g [x] := by
  have kk := (Kept.refl w (fun c => c = g)).setCell (p := ⟨g, 0, none⟩) (fun _ => rfl) (.int .u8 (x.toNat : Int))
  refine ⟨h.other kk (fun c hc e => l.no (e ▸ hc)) (h.bel.trans (kk.below h.bel.size (fun i e => by omega))), l.own.set 0 (by simp) x, l.no, Nat.lt_of_lt_of_le l.lt kk.size⟩
theorem Box4.poke {g g' : Nat} {v0 v1 v2 v3 : Value} (h : Box4 w g' v0 v1 v2 v3) (hne : g' ≠ g) (u : Value) : Box4 (w.setCell ⟨g, 0, none⟩ u) g' v0 v1 v2 v3 :=
  h.kept ((Kept.refl w (fun c => c = g)).setCell (p := ⟨g, 0, none⟩) (fun _ => rfl) u) hne
end
theorem Loose.below {w w' : World} {O : Nat → Prop} {g : Nat} {l : List UInt8} (h : Loose w O g l) (hb : Below w.heap.size w w') : Loose w' O g l := ⟨h.own.below h.lt hb, h.no, Nat.lt_of_lt_of_le h.lt hb.size⟩
theorem Loose.poke {w : World} {O : Nat → Prop} {g g' : Nat} {l : List UInt8} (h : Loose w O g' l) (hne : g' ≠ g) (u : Value) : Loose (w.setCell ⟨g, 0, none⟩ u) O g' l := by
  have kk := (Kept.refl w (fun c => c = g)).setCell (p := ⟨g, 0, none⟩) (fun _ => rfl) u
  exact ⟨kk.own h.own h.lt hne, h.no, Nat.lt_of_lt_of_le h.lt kk.size⟩
theorem enc_byte (b : UInt8) : M.enc 1 b.toNat = [b] := by
  have := M.enc_num [b]
  simpa [M.num] using this
/-- 'words.Bytes(1, uint64(b))'. -/
theorem bytes_byte (b : UInt8) (bi : Int) (hbi : bi = (b.toNat : Int)) (g g1 : Nat) (w : World) (hg1 : w.heap.size = g1) (hc : w.cell? ⟨g, 0, none⟩ = some (.int .u64 bi)) :
    Calls Try.prog 25 #[.int .i64 1, .slice (some ⟨g, 0, none⟩) 1 1] w fun e w' => e = .returned (.slice (some ⟨g1, 0, none⟩) 1 1) ∧ Own w' g1 [b] ∧ Below w.heap.size w w' := by
  subst hbi
  have := bytes_one 1 (by omega) b.toNat g g1 (by have := b.toNat_lt; omega) w hg1 hc
  rw [enc_byte] at this
  exact this
theorem L4c {w : World} {O : Nat → Prop} {g : Nat} {b : UInt8} (h : Loose w O g [b]) : w.cell? ⟨g, 0, none⟩ = some (.int .u8 (b.toNat : Int)) := h.own.1 0 (by simp)
theorem L4f {w : World} {O : Nat → Prop} {g : Nat} {b : UInt8} (h : Loose w O g [b]) : w.frozen? ⟨g, 0, none⟩ = false := h.own.2 0 (by simp)
/-- A store of a row that is not the space's. -/
theorem at_store_own {w0 w : World} {s P T : Nat} {f : Nat → UInt8} {O : Nat → Prop} (h : At w0 w s P T f O) (a n g : Nat) (xs : List UInt8) (hx : n = xs.length) (l : Loose w O g xs) (hin : a + n ≤ P * 4096) (hn : n ≤ 1048576) (hT : T ≤ 1000000000000) :
    Calls Try.prog 22 #[.pointer (some ⟨s, 0, none⟩), .int .u64 a, .slice (some ⟨g, 0, none⟩) n n] w fun e w' => e = .returned (.int .i64 0) ∧ At w0 w' s P (T + M.touched a n) (M.wr f a xs) (Wid O w w') ∧ Kept w w' O :=
  at_store h a n n (some ⟨g, 0, none⟩) xs hx l.own.lies (Nat.le_refl _) (fun _ ad e => by injection e with e; subst e; exact l.no) hin hn hT
theorem right_nat {p k : Int} (h : M.right p k = true) : ∃ pn kn : Nat, p = pn ∧ k = kn ∧ M.right (pn : Nat) (kn : Nat) = true := by
  have h' := (M.right_iff p k).1 h
  obtain ⟨pn, rfl⟩ : ∃ pn : Nat, p = pn := ⟨p.toNat, by omega⟩
  obtain ⟨kn, rfl⟩ : ∃ kn : Nat, k = kn := ⟨k.toNat, by omega⟩
  exact ⟨pn, kn, rfl, rfl, h⟩
end Go.Proofs.Ytacognejefeboaa
