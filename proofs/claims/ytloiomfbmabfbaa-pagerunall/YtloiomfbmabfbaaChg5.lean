/-
  The program's changed.
-/
import Derived.Test.YtloiomfbmabfbaaRep5
namespace Go.Proofs.Ytloiomfbmabfbaa
open Go.ChangeShapes Go.WideShapes Go.ChangeAt Go.RowKit Go.Deep
set_option linter.unusedVariables false
set_option maxRecDepth 20000

theorem Mine.keep {w w' : World} {B c : Nat} {A : Option Addr} {l : List M.R} (h : Mine w B A l c) (hb : ∀ g, g < w.heap.size → w'.heap[g]? = w.heap[g]?) : Mine w' B A l c := by
  rcases h with h | ⟨g, cs, rfl, h1, h2, h3⟩
  · exact .inl h
  · exact .inr ⟨g, cs, rfl, h1, h2.keep (hb g h2.lt), h3⟩
theorem Mine.below {w w' : World} {B c : Nat} {A : Option Addr} {l : List M.R} (h : Mine w B A l c) (hb : Below w.heap.size w w') : Mine w' B A l c := h.keep hb.block
theorem Mine.alloc {w : World} {B c : Nat} {A : Option Addr} {l : List M.R} (h : Mine w B A l c) (o : Obj) : Mine (w.alloc o) B A l c := h.keep (Below.heap_alloc w o)
theorem Mine.lt {w : World} {B c : Nat} {A : Option Addr} {l : List M.R} (h : Mine w B A l c) : ∀ b, A = some b → b.block < w.heap.size := fun b e => by
  rcases h with ⟨rfl, _⟩ | ⟨g, cs, rfl, h1, h2, h3⟩
  · cases e
  · injection e with e
    rw [← e]
    exact h2.lt

set_option maxHeartbeats 1000000 in
theorem replace_ins (w : World) (B n c vb i : Nat) (A : Option Addr) (l : List M.R) (p q : Int) (hm : Mine w B A l c) (hn : n = l.length) (hn4 : n ≤ 4000000000) (hBw : B ≤ w.heap.size) (hi : i ≤ n) (hv : Blk w vb [.int .i64 p, .int .i64 q]) (hne : ∀ b, A = some b → vb ≠ b.block) :
    Calls Try.prog 44 #[.slice A n c, .int .i64 (i : Int), .int .i64 (i : Int), .slice (some ⟨vb, 0, none⟩) 1 1] w (Got w B (n + 1) (l.take i ++ (⟨p, q⟩ :: l.drop i))) := by
  have hnc : n ≤ c := by
    rcases hm with ⟨_, rfl, rfl⟩ | ⟨g, cs, _, _, _, h, _⟩
    · simp at hn; omega
    · omega
  have HC := Lib.hid (insert_any w B n c vb i A l p q hm hn hn4 hBw hi hv hne)
  have hic : i ≤ c := by omega
  clear hm hn hv hne
  go_enter Try.func44, Try.ntmps44
  go_wp2_with (go_at_call 45; refine HC.out.mono ?_; rintro e w5 ⟨A5, c5, rfl, hr5, hb5, hf5⟩)
  all_goals
    go_ret
    exact ⟨_, _, rfl, hr5, hb5, hf5⟩
theorem replace_any (w : World) (B n c vb i j t : Nat) (A : Option Addr) (l : List M.R) (p q : Int) (hm : Mine w B A l c) (hn : n = l.length) (hn4 : n ≤ 4000000000) (hBw : B ≤ w.heap.size) (hij : i ≤ j) (hj : j ≤ n) (ht : t = i + 1 + (n - j)) (hv : Blk w vb [.int .i64 p, .int .i64 q]) (hne : ∀ b, A = some b → vb ≠ b.block) :
    Calls Try.prog 44 #[.slice A n c, .int .i64 (i : Int), .int .i64 (j : Int), .slice (some ⟨vb, 0, none⟩) 1 1] w (Got w B t (l.take i ++ (⟨p, q⟩ :: l.drop j))) := by
  rcases Nat.lt_or_ge i j with h | h
  · rcases hm with ⟨rfl, rfl, rfl⟩ | ⟨g, cs, rfl, hB, hb, h1, h2, h3, h4⟩
    · simp at hn; omega
    · subst hn
      have hne' : vb ≠ g := hne _ rfl
      rcases Nat.lt_or_ge j l.length with hr | hr
      · exact replace_mid w B l.length c vb g i j cs l p q hb h3 rfl h2 h1 h4 h hB hv hne' hr t ht
      · obtain rfl : j = l.length := by omega
        have := replace_end w B l.length c vb g i l.length cs l p q hb h3 rfl h2 h1 h4 h hB hv hne' rfl
        rw [show l.drop l.length = [] from List.drop_length, show t = i + 1 by omega]
        exact this
  · obtain rfl : i = j := by omega
    rw [show t = n + 1 by omega]
    exact replace_ins w B n c vb i A l p q hm hn hn4 hBw hj hv hne

set_option maxHeartbeats 2000000 in
theorem changed_put (w : World) (A : Option Addr) (l : List M.R) (z c i j t : Nat) (p q : Int) (hz : z = l.length) (hA : Runs w A l) (hl : z ≤ 4000000000) (hij : i ≤ j) (hj : j ≤ z) (ht : t = i + 1 + (z - j)) (hq : q ≠ 0) :
    Calls Try.prog 38 #[.slice A z c, .int .i64 (i : Int), .int .i64 (j : Int), .agg #[.int .i64 p, .int .i64 q]] w (Got w w.heap.size t (l.take i ++ (⟨p, q⟩ :: l.drop j))) := by
  have b1 : Below w.heap.size w (w.alloc (.cells #[.int .i64 p, .int .i64 q] 51)) := (Below.refl _ _).alloc (Nat.le_refl _) _
  have hA1 := hA.alloc (.cells #[.int .i64 p, .int .i64 q] 51)
  have x1 := Box.new w 51 p q
  have s1 : (w.alloc (.cells #[.int .i64 p, .int .i64 q] 51)).heap.size = w.heap.size + 1 := by simp
  have H1 := Lib.hid (And.intro b1 (And.intro hA1 (And.intro x1 s1)))
  have HZ := Lib.hid hz
  have HQ := Lib.hid hq
  clear b1 hA1 x1 s1 hz hA hq
  have HT := Lib.hid ht
  clear ht
  go_enter Try.func38, Try.ntmps38
  go_upto_region 2 with (go_at_call 29; refine (clone_any _ A l z c HZ.out H1.out.2.1 hl).mono ?_; rintro e w2 ⟨A2, c2, rfl, m2, b2⟩)
  have x2 := H1.out.2.2.1.below b2
  have M2 := Lib.hid (And.intro m2 (And.intro b2 x2))
  have q0 := x2.c0
  have q1 := x2.c1
  clear m2 b2 x2
  go_upto_region 4 with (go_at_call 42; refine (some_any _ p q true (by have := HQ.out; simp [this])).mono ?_; rintro e w3 ⟨rfl, b3⟩)
  have x3 := M2.out.2.2.below b3
  have m3 := M2.out.1.below b3
  have r0 := x3.c0
  have r1 := x3.c1
  have v4 := Blk.new w3 [.int .i64 p, .int .i64 q]
  have m4 := m3.alloc (.cells #[.int .i64 p, .int .i64 q] 51)
  have hs1 := H1.out.2.2.2
  have hs2 := M2.out.2.1.size
  have hs3 := b3.size
  have bb : Below w.heap.size w (w3.alloc (.cells #[.int .i64 p, .int .i64 q] 51)) := (below_call (below_call H1.out.1 M2.out.2.1) b3).alloc (by omega) _
  have hcall := replace_any (w3.alloc (.cells #[.int .i64 p, .int .i64 q] 51)) (w.alloc (.cells #[.int .i64 p, .int .i64 q] 51)).heap.size z c2 w3.heap.size i j t A2 l p q m4 HZ.out hl (by simp; omega) hij hj HT.out v4 (fun b e => by have := m3.lt b e; omega)
  have HC := Lib.hid (And.intro hcall bb)
  clear x3 m3 v4 m4 hs1 hs2 hs3 bb hcall b3 q0 q1
  go_wp2_with (go_at_call 44; refine HC.out.1.mono ?_; rintro e w5 ⟨A5, c5, rfl, hr5, hb5, hf5⟩)
  go_ret
  exact ⟨_, _, rfl, hr5, HC.out.2.trans (hb5.mono (by rw [H1.out.2.2.2]; omega)), hf5.mono (by rw [H1.out.2.2.2]; omega)⟩

set_option maxHeartbeats 2000000 in
theorem changed_del (w : World) (A : Option Addr) (l : List M.R) (z c i : Nat) (hz : z = l.length) (hA : Runs w A l) (hl : z ≤ 4000000000) (hi : i < z) :
    Calls Try.prog 38 #[.slice A z c, .int .i64 (i : Int), .int .i64 ((i : Int) + 1), .agg #[.int .i64 0, .int .i64 0]] w (Got w w.heap.size (z - 1) (l.take i ++ l.drop (i + 1))) := by
  have b1 : Below w.heap.size w (w.alloc (.cells #[.int .i64 0, .int .i64 0] 51)) := (Below.refl _ _).alloc (Nat.le_refl _) _
  have hA1 := hA.alloc (.cells #[.int .i64 0, .int .i64 0] 51)
  have x1 := Box.new w 51 0 0
  have s1 : (w.alloc (.cells #[.int .i64 0, .int .i64 0] 51)).heap.size = w.heap.size + 1 := by simp
  have H1 := Lib.hid (And.intro b1 (And.intro hA1 (And.intro x1 s1)))
  have HZ := Lib.hid hz
  clear b1 hA1 x1 s1 hz hA
  go_enter Try.func38, Try.ntmps38
  go_upto_region 2 with (go_at_call 29; refine (clone_any _ A l z c HZ.out H1.out.2.1 hl).mono ?_; rintro e w2 ⟨A2, c2, rfl, m2, b2⟩)
  have x2 := H1.out.2.2.1.below b2
  have M2 := Lib.hid (And.intro m2 (And.intro b2 x2))
  have q0 := x2.c0
  have q1 := x2.c1
  clear m2 b2 x2
  go_upto_region 3 with (go_at_call 42; refine (some_any _ 0 0 false rfl).mono ?_; rintro e w3 ⟨rfl, b3⟩)
  have m3 := M2.out.1.below b3
  have bb : Below w.heap.size w w3 := below_call (below_call H1.out.1 M2.out.2.1) b3
  have HB := Lib.hid bb
  rcases m3 with ⟨_, h, _⟩ | ⟨g, cs, rfl, hB, hb, h1, h2, h3, h4⟩
  · have := HZ.out
    rw [h] at this
    simp at this
    omega
  have hcall := delete_any w3 g z c2 i cs l hb h3 HZ.out (by rw [HZ.out]; exact h1) h2 (by rw [HZ.out]; exact h4) hi w.heap.size (by rw [H1.out.2.2.2] at hB; omega)
  have HC := Lib.hid hcall
  have HBG := Lib.hid (show w.heap.size ≤ g by rw [H1.out.2.2.2] at hB; omega)
  clear hcall hb h1 h2 h3 h4 hB bb b3 q0 q1
  go_wp2_with (go_at_call 43; refine HC.out.mono ?_; rintro e w5 ⟨ds, rfl, hd5, ht5, hb5⟩)
  go_ret
  refine ⟨_, _, rfl, hd5.runs ?_, HB.out.trans hb5, fresh_at HBG.out⟩
  rw [← ht5]
  congr 1
  have := HZ.out
  rw [List.length_append, List.length_take, List.length_drop]
  omega
end Go.Proofs.Ytloiomfbmabfbaa
