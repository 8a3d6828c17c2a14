/-
  An Alloc beside the document's.
-/
import Derived.Test.YtloiomfbmabfbaaArg6
import Derived.Test.YtloiomfbmabfbaaR6
namespace Go.Proofs.Ytloiomfbmabfbaa
open Go.ChangeShapes Go.WideShapes Go.ChangeAt Go.RowKit Go.Deep
set_option linter.unusedVariables false
set_option maxRecDepth 20000

structure Two (w0 w : World) (g gw : Nat) (P : Int) (l : List M.R) (T : Int) (k : Nat) (A : Option Addr) (z c : Nat) : Prop where
  std : Std w0 w g P l T k
  tri : Tri w gw P A z c T
  len : z = l.length
  runs : Runs w A l
  ne : gw ≠ g
  old : w0.heap.size ≤ gw
section
variable {w0 w w1 w' : World} {g gw : Nat} {P T T' : Int} {l L : List M.R} {k : Nat} {A A' : Option Addr} {z c z' c' : Nat}
theorem Two.below (h : Two w0 w g gw P l T k A z c) (hb : Below w.heap.size w w') : Two w0 w' g gw P l T k A z c := ⟨h.std.below hb, h.tri.below hb, h.len, h.runs.below hb, h.ne, h.old⟩
theorem Two.few (h : Two w0 w g gw P l T k A z c) (hk : k ≤ 60) : z ≤ 61 := by have := h.std.fit.len; have := h.len; omega
theorem Two.store (h : Two w0 w g gw P l T k A z c) (hb : Below w.heap.size w w1) (hr : Runs w1 A' L) (z' c' : Nat) (T' : Int) :
    Std w0 (((w1.setCell ⟨gw, 0, none⟩ (.int .i64 P)).setCell ⟨gw, 1, none⟩ (.slice A' z' c')).setCell ⟨gw, 2, none⟩ (.int .i64 T')) g P l T k ∧
    Tri (((w1.setCell ⟨gw, 0, none⟩ (.int .i64 P)).setCell ⟨gw, 1, none⟩ (.slice A' z' c')).setCell ⟨gw, 2, none⟩ (.int .i64 T')) gw P A' z' c' T' ∧
    Runs (((w1.setCell ⟨gw, 0, none⟩ (.int .i64 P)).setCell ⟨gw, 1, none⟩ (.slice A' z' c')).setCell ⟨gw, 2, none⟩ (.int .i64 T')) A' L := by
  have h1 := h.below hb
  have hg : w1.grownBy (((w1.setCell ⟨gw, 0, none⟩ (.int .i64 P)).setCell ⟨gw, 1, none⟩ (.slice A' z' c')).setCell ⟨gw, 2, none⟩ (.int .i64 T')) (some gw) :=
    only_setCell (only_setCell (only_setCell (grown_of (Below.refl _ _) gw) rfl _) rfl _) rfl _
  obtain ⟨A0, z0, c0, hal, hz0, hr0⟩ := h1.std.has
  refine ⟨⟨⟨A0, z0, c0, hal.keep (hg.block g hal.lt (fun e => h.ne (by injection e with e; exact e.symm))), hz0, h1.tri.runs hr0 _ _ _⟩, h1.std.fit, below_set3 h1.std.bel h1.old _ _ _, h1.std.old, h1.std.p1, h1.std.p2⟩,
    h1.tri.set P A' z' c' T', h1.tri.runs hr _ _ _⟩
theorem Two.next (hs : Std w0 w g P l T k) (ht : Tri w gw P A' z' c' T') (hz : z' = L.length) (hr : Runs w A' L) (hne : gw ≠ g) (ho : w0.heap.size ≤ gw) (hs' : Std w0 w' g P L T' (k + 1)) (hg : w.grownBy w' (some g)) :
    Two w0 w' g gw P L T' (k + 1) A' z' c' := by
  have hb := hg.block gw ht.al.lt (fun e => hne (by injection e))
  exact ⟨hs', ⟨ht.al.keep hb, (World.frozen?_of_block (w := w) (a := ⟨gw, 0, none⟩) hb).trans ht.f0⟩, hz, hs.runs hr hg, hne, ho⟩
theorem Two.rgive (h : Two w0 w g gw P l T k A z c) (hk : k ≤ 60) (W : World) (hW : Below w.heap.size w W) (p n : Int) (hp : -9223372036854775808 ≤ p) (hp2 : p ≤ 9223372036854775807) (hn : -9223372036854775808 ≤ n) (hn2 : n ≤ 9223372036854775807) :
    Calls Try.prog 11 #[RA P A z c T, .int .i64 p, .int .i64 n] W (GotRA W P (gvL l P p n) (gvT l P p n T) (fun v => .tuple #[v, .int .i64 (gvE l P p n)])) :=
  rgive6_any W P A z c T l h.len (h.runs.below hW) (by have := h.few hk; omega) h.std.fit.ok (by have := h.std.p1; omega) h.std.p2 h.std.fit.t0 (by have := h.std.fit.t1; omega) p n hp hp2 hn hn2
theorem Two.rtake (h : Two w0 w g gw P l T k A z c) (hk : k ≤ 60) (W : World) (hW : Below w.heap.size w W) (n : Int) :
    Calls Try.prog 13 #[RA P A z c T, .int .i64 n] W (GotRA W P (tkL l n) (tkT l n T) (fun v => .tuple #[v, .int .i64 (takeP l n), .int .i64 (tkE l n)])) :=
  rtake6_any W P A z c T l h.len (h.runs.below hW) (by have := h.few hk; omega) h.std.fit.ok h.std.p2 h.std.fit.t0 (by have := h.std.fit.t1; omega) n
end
end Go.Proofs.Ytloiomfbmabfbaa
