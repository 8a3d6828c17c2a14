/-
  The document's Put: what its calls come to.
-/
import Derived.Test.YtmboibipabkhaaaGreatKxY10
namespace Go.Proofs.YtmboibipabkhaaaGreat
open Go.ChangeShapes Go.WideShapes Go.ChangeAt Go.RowKit Go.Deep
set_option linter.unusedVariables false
set_option maxRecDepth 20000
section
variable {w : World} {P m k : Nat} {Z : St} {d : Dc}
theorem rread10 (h : Doc w Z d m) (hm : m ≤ 900) (hP : P ≤ 1048576) (hu : Z.u ≤ 900000000000) (x : Int) (q p kd o n : Nat) (hx : x = q) (hq : q < P) (hs : Stands Z.f q p kd o n) :
  Calls Tryz.prog 38 #[refV P d.A d.n d.c Z.u, .int .i64 x] w fun e w' => e = .returned (.tuple #[refV P d.A d.n d.c (Z.u + 1), hv p kd o n, .int .i64 0]) ∧ Below w.heap.size w w' := by
 subst hx
 have hf := h.few
 have y := docRead w P d.A d.n d.c Z.u hP d.lg h.nl h.log h.ok (by omega) h.h0 hu q
 rw [h.f] at y
 have eE := rE_yes hq hs.isH
 unfold rV at y
 rw [eE, if_pos rfl, Int.toNat_natCast, hs.v, rT_in hq] at y
 exact y
theorem rclear10 (h : Doc w Z d m) (hm : m ≤ 900) (hP : P ≤ 1048576) (hu : Z.u ≤ 800000000000) (x : Int) (q p kd o n : Nat) (hx : x = q) (hq : q < P) (hs : Stands Z.f q p kd o n) :
  Calls Tryz.prog 39 #[refV P d.A d.n d.c Z.u, .int .i64 x] w fun e w' => ∃ A2 n2 c2 lg2, e = .returned (.tuple #[refV P A2 n2 c2 (Z.u + 2), .int .i64 0]) ∧ Below w.heap.size w w' ∧ Doc w' { Z with u := Z.u + 2, f := M.zr Z.f (x.toNat * 4096) 32 } { d with A := A2, n := n2, c := c2, lg := lg2 } (m + 1) ∧ ∀ y, y < w.heap.size → Dof Z d y → Dof { Z with u := Z.u + 2, f := M.zr Z.f (x.toNat * 4096) 32 } { d with A := A2, n := n2, c := c2, lg := lg2 } y := by
 subst hx
 have hf := h.few
 have y := docClear w P d.A d.n d.c Z.u hP d.lg h.nl h.log h.ok (by omega) h.h0 (by omega) q
 rw [h.f] at y
 have eE := rE_yes hq hs.isH
 unfold kT cF at y
 rw [eE, if_pos rfl, if_pos rfl, rT_in hq] at y
 refine y.mono ?_
 rintro e w' ⟨l', A', c', n', T', hT, rfl, hn, hl, hfr, hb, hby, hle, hok⟩
 subst hT
 have hp := h.bytes (T' := Z.u + 2) hn hl hfr hb hby hle hok
 exact ⟨A', n', c', l', rfl, hb, hp.1, hp.2⟩
theorem rpush10 (h : Doc w Z d m) (hg : M.Good Z.K) (cl p : Int) :
  Calls Tryz.prog 40 #[.slice d.Ak d.zk d.ck, .int .i64 cl, .int .i64 p] w fun e w' => ∃ A2 z2 c2 kl2, e = .returned (.tuple #[.slice A2 z2 c2, .bool (M.pushB Z.K cl p)]) ∧ Below w.heap.size w w' ∧ Doc w' { Z with K := M.pushF Z.K cl p } { d with Ak := A2, zk := z2, ck := c2, kl := kl2 } m ∧ ∀ x, x < w.heap.size → Dof Z d x → Dof { Z with K := M.pushF Z.K cl p } { d with Ak := A2, zk := z2, ck := c2, kl := kl2 } x := by
 have hl := (h.lk hg).2
 refine (rfpush_any w d.Ak d.kl d.zk d.ck h.kz h.kept (by omega) h.kc (by rw [h.sel]; exact hg) cl p).mono ?_
 unfold GotE
 rw [h.sel]
 rintro e w' ⟨A2, z2, c2, rfl, hz, hc, hr, hb, hm⟩
 have hp := h.keeps hz hc hr (show M.sel (M.pushL d.kl cl p) = M.pushF Z.K cl p by rw [M.sel_pushL, h.sel]) hb hm
 exact ⟨A2, z2, c2, _, rfl, hb, hp.1, hp.2⟩
theorem rgive10 (h : Doc w Z d m) (hP1 : 1 ≤ P) (hP2 : P ≤ 1048576) (hF : Fit P Z.l Z.T k) (hk : k ≤ 80000) (hL : Z.l.length ≤ 100) (p n : Int) (h0 : 0 ≤ p) (h1 : 1 ≤ n) (h2 : p + n ≤ P) :
  Calls Tryz.prog 41 #[RA P d.Al d.z d.cl Z.T, .int .i64 p, .int .i64 n] w fun e w' => ∃ A2 z2 c2, e = .returned (.tuple #[RA P A2 z2 c2 (gvT Z.l P p n Z.T), .int .i64 (gvE Z.l P p n)]) ∧ Below w.heap.size w w' ∧ Doc w' { Z with l := gvL Z.l P p n, T := gvT Z.l P p n Z.T } { d with Al := A2, z := z2, cl := c2 } m ∧ ∀ x, x < w.heap.size → Dof Z d x → Dof { Z with l := gvL Z.l P p n, T := gvT Z.l P p n Z.T } { d with Al := A2, z := z2, cl := c2 } x := by
 have hz := h.zl
 have ht := hF.t1
 refine (rgive6_f w P d.Al d.z d.cl Z.T Z.l h.zl h.runs (by omega) hF.ok (by omega) (by omega) hF.t0 (by omega) p n (by omega) (by omega) (by omega) (by omega)).mono ?_
 rintro e w' ⟨A2, z2, c2, rfl, hz2, hr, hb, hFr⟩
 have hp := h.pages (T' := gvT Z.l P p n Z.T) (c' := c2) hz2 hr hb hFr
 exact ⟨A2, z2, c2, rfl, hb, hp.1, hp.2⟩
end
end Go.Proofs.YtmboibipabkhaaaGreat
