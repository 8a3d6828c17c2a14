/-
  What ChunkKinds goes by.
-/
import Derived.Test.YtmboibipabkhaaaK11
namespace Go.Proofs.Ytmboibipabkhaaa
open Go.ChangeShapes Go.WideShapes Go.ChangeAt Go.RowKit Go.Deep
set_option linter.unusedVariables false
set_option maxRecDepth 20000

/-- A chunk that was got: its first page, its pages, its kind, its owner. -/
structure Kh where
  p : Int
  n : Int
  k : Nat
  o : Nat
def hcells (l : List Kh) : List Value := l.flatMap fun h => [.int .i64 h.n, .int .i64 (h.k : Int), .int .u64 (h.o : Int), .int .u64 0]
theorem hcells_cons (h : Kh) (l : List Kh) : hcells (h :: l) = .int .i64 h.n :: .int .i64 (h.k : Int) :: .int .u64 (h.o : Int) :: .int .u64 0 :: hcells l := rfl
theorem hcells_append (l m : List Kh) : hcells (l ++ m) = hcells l ++ hcells m := by simp [hcells]
theorem hcells_length (l : List Kh) : (hcells l).length = l.length * 4 := by
  induction l with
  | nil => rfl
  | cons r l ih => rw [hcells_cons]; simp only [List.length_cons, ih]; omega
theorem hcells_one (l : List Kh) : ∀ u ∈ hcells l, u.oneCell' = true := by
  intro u hu
  unfold hcells at hu
  obtain ⟨r, _, h⟩ := List.mem_flatMap.1 hu
  simp only [List.mem_cons, List.not_mem_nil, or_false] at h
  rcases h with rfl | rfl | rfl | rfl <;> rfl
theorem hcells_at (l : List Kh) : ∀ (j : Nat) (h : j < l.length), (hcells l)[j * 4]? = some (.int .i64 l[j].n) ∧ (hcells l)[j * 4 + 1]? = some (.int .i64 (l[j].k : Int)) ∧ (hcells l)[j * 4 + 2]? = some (.int .u64 (l[j].o : Int)) ∧ (hcells l)[j * 4 + 3]? = some (.int .u64 0) := by
  induction l with
  | nil => intro k h; simp at h
  | cons r l ih =>
    intro k h
    rw [hcells_cons]
    cases k with
    | zero => exact ⟨rfl, rfl, rfl, rfl⟩
    | succ k =>
      have := ih k (by simpa using h)
      rw [show (k + 1) * 4 = k * 4 + 4 by omega, show k * 4 + 4 + 1 = k * 4 + 1 + 4 by omega, show k * 4 + 4 + 2 = k * 4 + 2 + 4 by omega, show k * 4 + 4 + 3 = k * 4 + 3 + 4 by omega]
      simpa using this
theorem infoH : ∃ i, Try.prog.info? 39 = some i ∧ i.zero = some (.agg #[.int .i64 0, .int .i64 0, .int .u64 0, .int .u64 0]) ∧ i.size = 4 ∧ i.bytes = 32 := ⟨_, by rfl, by rfl, by rfl, by rfl⟩
theorem head_cell10 (w : World) (x : Kh) : ∀ j u, (hcells [x])[j]? = some u → (w.alloc (.cells #[.int .i64 x.n, .int .i64 (x.k : Int), .int .u64 (x.o : Int), .int .u64 0] 39)).cell? ((⟨w.heap.size, 0, none⟩ : Addr).add j) = some u := fun j u hu => by
  rw [Addr.add_lit, Nat.zero_add, World.cell?_alloc_mark]
  simpa [hcells] using hu
theorem Lst.head {w : World} {B t c s : Nat} {A : Option Addr} {Q : Nat → Prop} {l : List Kh} (h : Lst w 39 4 B A t c (hcells l) Q s) {j : Nat} (hj : j < l.length) : ∃ g, A = some ⟨g, 0, none⟩ ∧ w.cell? ⟨g, j * 4, none⟩ = some (.int .i64 l[j].n) ∧ w.cell? ⟨g, j * 4 + 1, none⟩ = some (.int .i64 (l[j].k : Int)) ∧ w.cell? ⟨g, j * 4 + 2, none⟩ = some (.int .u64 (l[j].o : Int)) ∧ w.cell? ⟨g, j * 4 + 3, none⟩ = some (.int .u64 0) := by
  have ht : t * 4 = l.length * 4 := by have := h.row.1; rw [hcells_length] at this; omega
  obtain ⟨g, rfl⟩ := row_some h.row (by omega)
  have ha := hcells_at l j hj
  have k : ∀ i v, (hcells l)[i]? = some v → w.cell? ⟨g, i, none⟩ = some v := fun i v e => by
    have := h.row.cells (g := g) rfl i v e
    rwa [Addr.add_lit, Nat.zero_add] at this
  exact ⟨g, rfl, k _ _ ha.1, k _ _ ha.2.1, k _ _ ha.2.2.1, k _ _ ha.2.2.2⟩
/-- Bytes of an argument. -/
theorem bytes_of {w : World} {a : Option Addr} {len cap : Nat} {zs : List Int} (h : IsRow .u8 w a len cap zs) : ∃ l : List Nat, len = l.length ∧ (∀ x ∈ l, x < 256) ∧ (0 < len → ∃ ad, a = some ad ∧ ∀ j (hj : j < l.length), w.cell? (ad.add j) = some (.int .u8 (l[j] : Int))) := by
  rcases h with ⟨rfl, rfl, rfl, rfl⟩ | ⟨x, rfl, hl, hm, hz, hc, hw⟩
  · exact ⟨[], rfl, fun x hx => (by cases hx), fun h => absurd h (by omega)⟩
  · refine ⟨(zs.take len).map Int.toNat, by simp; omega, fun y hy => ?_, fun _ => ⟨x, rfl, fun j hj => ?_⟩⟩
    · obtain ⟨z, hz', rfl⟩ := List.mem_map.1 hy
      have := bounds_u8 (hw z (List.mem_of_mem_take hz'))
      omega
    · have hj' : j < len := by simp at hj; omega
      have hjz : j < zs.length := by omega
      have hb := bounds_u8 (hw _ (List.getElem_mem hjz))
      rw [hc j hjz]
      simp [List.getD, List.getElem?_eq_getElem hjz]
      omega
/-- What stands behind some chunks that were got. -/
structure Kd (i : Nat) (at' : Int) (Z : St) (hs : List Kh) : Prop where
  inv : Inv 3000 Z (hs.reverse.map fun h => ⟨h.p, h.n⟩)
  line : Z.l = [⟨at', 3000 - at'⟩]
  K : Z.K = M.empty
  u : Z.u = i
  len : hs.length = i
  lo : 0 ≤ at' ∧ at' ≤ 90 * i
  st : ∀ h ∈ hs, 0 ≤ h.p ∧ h.p < 3000 ∧ 0 ≤ h.n ∧ Stands Z.f h.p.toNat h.n.toNat h.k h.o 0
theorem Kd.new : Kd 0 0 (St.new 3000) [] := ⟨Inv.new 3000 (by omega), rfl, rfl, rfl, rfl, by omega, fun h hh => by cases hh⟩
theorem Kd.step {i : Nat} {at' : Int} {Z : St} {hs : List Kh} (h : Kd i at' Z hs) (hi : i < 20) (x : Int) (hx : 1 ≤ x ∧ x ≤ 90) (k : Nat) (hk : k ≤ 255) :
    (getF 3000 Z x).e = 0 ∧ getP 3000 Z x = at' ∧ Kd (i + 1) (at' + getN 3000 Z x) (Z.get 3000 x k i) (hs ++ [⟨at', getN 3000 Z x, k, i⟩]) := by
  have hn : 1 ≤ M.ckN x ∧ M.ckN x ≤ 90 := by
    have h1 := M.ckN_ge hx.1 (by omega)
    rcases Int.lt_or_le 64 x with e | e
    · have : M.ckN x = x := by unfold M.ckN; rw [M.cls_none _ e, if_neg (by omega)]
      omega
    · have := ckN_small hx.1 e
      omega
  have hlo := h.lo
  have f := line_get (P := 3000) (Z := Z) (pages := x) h.line (by rw [h.K]; rfl) (by omega) (by omega)
  have s := line_state (kind := (k : Int)) (o := i) f rfl
  have g := h.inv.get_ok (by omega) (pages := x) (kind := (k : Int)) (o := i) hx.1 (by omega) (by omega) (by omega) (by omega) s.2.2.2.2
  refine ⟨s.2.2.2.2, s.2.2.1, ?_⟩
  have gi := g.1
  have gs := g.2.1
  rw [s.2.2.1] at gi gs
  refine ⟨by rw [List.reverse_append]; exact gi, ?_, by rw [s.2.1]; exact h.K, by rw [g.2.2.2.2, h.u], by rw [List.length_append, h.len]; rfl, by rw [s.2.2.2.1]; omega, fun y hy => ?_⟩
  · rw [s.1, s.2.2.2.1]
    simp
    omega
  · rcases List.mem_append.1 hy with hy | hy
    · have := h.st y hy
      exact ⟨this.1, this.2.1, this.2.2.1, g.2.2.2.1 ⟨y.p, y.n⟩ (List.mem_map.2 ⟨y, List.mem_reverse.2 hy, rfl⟩) _ _ _ _ this.2.2.2⟩
    · rw [List.mem_singleton.1 hy]
      refine ⟨hlo.1, by show at' < 3000; omega, by show 0 ≤ getN 3000 Z x; rw [s.2.2.2.1]; omega, ?_⟩
      rw [Int.toNat_natCast] at gs
      exact gs
/-- Two lists of one's own beside a Store. -/
structure KdG (w wr : World) (s a b c : Nat) (A A2 : Option Addr) (th tf c1 c2 : Nat) (xs ys : List Value) (Z : St) (Q D : Nat → Prop) (k : Nat) : Prop where
  chk : Chk D w wr s a b c 3000 Z Q k
  lh : Lst wr 39 4 w.heap.size A th c1 xs Q s
  lf : Lst wr 3 1 w.heap.size A2 tf c2 ys Q s
  dA : ∀ x, rowD A x → D x
  dB : ∀ x, rowD A2 x → D x
  ab : ∀ x, rowD A x → ¬ rowD A2 x
section
variable {w wr w4 w5 : World} {s a b c : Nat} {A A2 : Option Addr} {th tf c1 c2 : Nat} {xs ys zs : List Value} {Z Z' : St} {Q D : Nat → Prop} {k k' : Nat}
theorem KdG.call (h : KdG w wr s a b c A A2 th tf c1 c2 xs ys Z Q D k) (hc : Chk D w w4 s a b c 3000 Z' (Wid Q wr w4) k') (hk : Kept wr w4 Q) : KdG w w4 s a b c A A2 th tf c1 c2 xs ys Z' (Wid Q wr w4) D k' :=
  ⟨hc, h.lh.call hk, h.lf.call hk, h.dA, h.dB, h.ab⟩
theorem KdG.below (h : KdG w wr s a b c A A2 th tf c1 c2 xs ys Z Q D k) (hb : Below wr.heap.size wr w4) : KdG w w4 s a b c A A2 th tf c1 c2 xs ys Z Q D k :=
  ⟨h.chk.below hb, h.lh.below hb, h.lf.below hb, h.dA, h.dB, h.ab⟩
theorem Chk.app2 {w0 w w' : World} {s a b c P : Nat} {Z : St} {Q D : Nat → Prop} {k : Nat} {e : TypeId} {z t c' m g1 c1 : Nat} {A : Option Addr} {xs ys : List Value} (h : Chk D w0 w s a b c P Z Q k) (hD : ∀ x, rowD A x → D x) (hl : Lst w e z w0.heap.size A t c' xs Q s) (hrow : w'.ownsRow w0.heap.size e z (.slice (some ⟨g1, 0, none⟩) (t + m) c1) (t + m) (xs ++ ys))
    (hgr : w.grownBy w' (Value.slice A t c').ownBlock) (hat : (Value.slice A t c').ownBlock = some g1 ∨ g1 = w.heap.size) (hlt : g1 < w'.heap.size) :
    Chk (fun x => D x ∨ x = g1) w0 w' s a b c P Z Q k ∧ Lst w' e z w0.heap.size (some ⟨g1, 0, none⟩) (t + m) c1 (xs ++ ys) Q s ∧ Kept w w' (rowD A) ∧ (rowD A g1 ∨ g1 = w.heap.size) := by
  have hk : Kept w w' (rowD A) := (Kept.refl w _).grown hgr (fun x e _ => own_D e)
  have hd : rowD A g1 ∨ g1 = w.heap.size := hat.imp own_D id
  refine ⟨h.other hk (fun x hx => ⟨(hl.off x hx).1, (hl.off x hx).2, (row_low hl.row hx).1, fun e => h.st.rs e x (hD x hx)⟩) (fun x hx => ?_) (fun x hx => ?_), ⟨hrow, fun x hx => ?_⟩, hk, hd⟩
  · rcases hx with hx | rfl
    · exact .inl hx
    · exact hd.imp (hD x) (fun e => Nat.le_of_eq e.symm)
  · rcases hx with hx | rfl
    · exact Nat.lt_of_lt_of_le (h.st.dl x hx) hk.size
    · exact hlt
  · obtain ⟨ad, e, rfl⟩ := hx
    cases e
    show ¬ Q g1 ∧ g1 ≠ s
    rcases hd with hd | hd
    · exact hl.off g1 hd
    · exact ⟨fun q => by have := h.st.lt _ q; omega, fun e => by have := h.bx.lt; omega⟩
theorem KdG.appA {g1 c' : Nat} (h : KdG w wr s a b c A A2 th tf c1 c2 xs ys Z Q D k) (hrow : w5.ownsRow w.heap.size 39 4 (.slice (some ⟨g1, 0, none⟩) (th + 1) c') (th + 1) (xs ++ zs))
    (hgr : wr.grownBy w5 (Value.slice A th c1).ownBlock) (hat : (Value.slice A th c1).ownBlock = some g1 ∨ g1 = wr.heap.size) (hlt : g1 < w5.heap.size) :
    KdG w w5 s a b c (some ⟨g1, 0, none⟩) A2 (th + 1) tf c' c2 (xs ++ zs) ys Z Q (fun x => D x ∨ x = g1) k := by
  have r := h.chk.app2 h.dA h.lh hrow hgr hat hlt
  have one : ∀ x, rowD (some ⟨g1, 0, none⟩) x → x = g1 := fun x hx => by obtain ⟨ad, e, rfl⟩ := hx; cases e; rfl
  refine ⟨r.1, r.2.1, ⟨row_kept h.lf.row r.2.2.1 (fun x hx hx2 => h.ab x hx2 hx), h.lf.off⟩, fun x hx => .inr (one x hx), fun x hx => .inl (h.dB x hx), fun x hx hx2 => ?_⟩
  rw [one x hx] at hx2
  rcases r.2.2.2 with e | e
  · exact h.ab g1 e hx2
  · have := (row_low h.lf.row hx2).2; omega
theorem KdG.appB {g1 c' : Nat} (h : KdG w wr s a b c A A2 th tf c1 c2 xs ys Z Q D k) (hrow : w5.ownsRow w.heap.size 3 1 (.slice (some ⟨g1, 0, none⟩) (tf + 1) c') (tf + 1) (ys ++ zs))
    (hgr : wr.grownBy w5 (Value.slice A2 tf c2).ownBlock) (hat : (Value.slice A2 tf c2).ownBlock = some g1 ∨ g1 = wr.heap.size) (hlt : g1 < w5.heap.size) :
    KdG w w5 s a b c A (some ⟨g1, 0, none⟩) th (tf + 1) c1 c' xs (ys ++ zs) Z Q (fun x => D x ∨ x = g1) k := by
  have r := h.chk.app2 h.dB h.lf hrow hgr hat hlt
  have one : ∀ x, rowD (some ⟨g1, 0, none⟩) x → x = g1 := fun x hx => by obtain ⟨ad, e, rfl⟩ := hx; cases e; rfl
  refine ⟨r.1, ⟨row_kept h.lh.row r.2.2.1 (fun x hx hx2 => h.ab x hx hx2), h.lh.off⟩, r.2.1, fun x hx => .inl (h.dA x hx), fun x hx => .inr (one x hx), fun x hx hx2 => ?_⟩
  rw [one x hx2] at hx
  rcases r.2.2.2 with e | e
  · exact h.ab g1 hx e
  · have := (row_low h.lh.row hx).2; omega
end
theorem kd_args (pp kk j : Nat) (h1 : pp < 256) (h2 : kk < 256) (h3 : j < 20) : IntKind.i64.wrap ((IntKind.i64.wrap (pp : Int)).tmod 90 + 1) = (pp : Int) % 90 + 1 ∧ IntKind.i64.wrap (kk : Int) = (kk : Int) ∧ IntKind.u64.wrap (j : Int) = (j : Int) := by
  have e : ∀ x : Int, 0 ≤ x → x < 1000 → IntKind.i64.wrap x = x := fun x a b => by rw [IntKind.wrap_i64]; omega
  refine ⟨?_, e _ (by omega) (by omega), by rw [wrapU]; omega⟩
  rw [e (pp : Int) (by omega) (by omega), Int.tmod_eq_emod_of_nonneg (by omega), e _ (by omega) (by omega)]
theorem KdG.alloc {w wr : World} {s a b c : Nat} {A A2 : Option Addr} {th tf c1 c2 : Nat} {xs ys : List Value} {Z : St} {Q D : Nat → Prop} {k : Nat} (h : KdG w wr s a b c A A2 th tf c1 c2 xs ys Z Q D k) (o : Obj) : KdG w (wr.alloc o) s a b c A A2 th tf c1 c2 xs ys Z Q D k := h.below ((Below.refl _ _).alloc (Nat.le_refl _) _)
section
variable {w wr w4 w5 : World} {s a b c : Nat} {A A2 : Option Addr} {th tf c1 c2 : Nat} {xs ys zs : List Value} {Z Z' : St} {Q D : Nat → Prop} {k k' : Nat}
/-- A variable of one's own. -/
theorem KdG.new (h : KdG w wr s a b c A A2 th tf c1 c2 xs ys Z Q D k) (o : Obj) : KdG w (wr.alloc o) s a b c A A2 th tf c1 c2 xs ys Z Q (fun x => D x ∨ x = wr.heap.size) k ∧ ¬ Q wr.heap.size ∧ wr.heap.size ≠ s ∧ ¬ rowD A wr.heap.size ∧ ¬ rowD A2 wr.heap.size := by
  have hb := h.alloc o
  have hk : Kept wr (wr.alloc o) (fun _ => False) := (Kept.refl _ _).alloc o
  refine ⟨⟨h.chk.other hk (fun x e => e.elim) (fun x hx => hx.imp id (fun e => Nat.le_of_eq e.symm)) (fun x hx => ?_), hb.lh, hb.lf, fun x hx => .inl (h.dA x hx), fun x hx => .inl (h.dB x hx), h.ab⟩, fun e => by have := h.chk.st.lt _ e; omega, fun e => by have := h.chk.bx.lt; omega, fun e => by have := (row_low h.lh.row e).2; omega, fun e => by have := (row_low h.lf.row e).2; omega⟩
  rcases hx with hx | rfl
  · have := h.chk.st.dl x hx; simp; omega
  · simp
theorem kept_set4' (w : World) (y : Nat) (u0 u1 u2 u3 : Value) : Kept w ((((w.setCell ⟨y, 0, none⟩ u0).setCell ⟨y, 1, none⟩ u1).setCell ⟨y, 2, none⟩ u2).setCell ⟨y, 3, none⟩ u3) (fun x => x = y) :=
  ((((Kept.refl w (fun x => x = y)).setCell (p := ⟨y, 0, none⟩) (fun _ => rfl) u0).setCell (p := ⟨y, 1, none⟩) (fun _ => rfl) u1).setCell (p := ⟨y, 2, none⟩) (fun _ => rfl) u2).setCell (p := ⟨y, 3, none⟩) (fun _ => rfl) u3
theorem KdG.set {y : Nat} (h : KdG w wr s a b c A A2 th tf c1 c2 xs ys Z Q D k) (hD : D y) (hQ : ¬ Q y) (hs : y ≠ s) (hA : ¬ rowD A y) (hA2 : ¬ rowD A2 y) (h0 : w.heap.size ≤ y) (u0 u1 u2 u3 : Value) :
    KdG w ((((wr.setCell ⟨y, 0, none⟩ u0).setCell ⟨y, 1, none⟩ u1).setCell ⟨y, 2, none⟩ u2).setCell ⟨y, 3, none⟩ u3) s a b c A A2 th tf c1 c2 xs ys Z Q D k := by
  have hk := kept_set4' wr y u0 u1 u2 u3
  refine ⟨h.chk.other hk (fun x e => ?_) (fun x hx => .inl hx) (fun x hx => Nat.lt_of_lt_of_le (h.chk.st.dl x hx) hk.size), ⟨row_kept h.lh.row hk (fun x hx e => hA (e ▸ hx)), h.lh.off⟩, ⟨row_kept h.lf.row hk (fun x hx e => hA2 (e ▸ hx)), h.lf.off⟩, h.dA, h.dB, h.ab⟩
  subst e
  exact ⟨hQ, hs, h0, fun hl => h.chk.st.rs hl _ hD⟩
theorem KdG.first {g : Nat} {ps : List Int} (h : KdG w wr s a b c A (some ⟨g, 0, none⟩) th tf c1 c2 xs (ints10 ps) Z Q D k) {j : Nat} (hj : j < ps.length) : wr.cell? ⟨g, j, none⟩ = some (.int .i64 ps[j]) := by
  obtain ⟨g', e, hc⟩ := h.lf.cell hj
  cases e
  exact hc
theorem KdG.drewN (h : KdG w wr s a b c A A2 th tf c1 c2 xs ys Z Q D k) (n : Nat) : KdG w (wr.drewN n) s a b c A A2 th tf c1 c2 xs ys Z Q D k := h.below (below_drewN' (Below.refl _ _) n)
theorem KdG.size (h : KdG w wr s a b c A A2 th tf c1 c2 xs ys Z Q D k) : w.heap.size ≤ wr.heap.size := h.chk.bel.size
end
end Go.Proofs.Ytmboibipabkhaaa
