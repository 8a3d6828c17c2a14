/-
  HeaderPlays is true whatever the input: whatever headers are written, read, linked and cleared, and bytes are stored between, each answer, and what ticks, are the document's, step by step; no conditions.
-/
import Derived.Test.YtacognejefeboaaRows
import Derived.WalkKit
import Derived.ProofKit
import Derived.OpenShut
import Derived.ShutString
import Derived.ChangeOld
import Derived.Below
import Derived.Test.YtacognejefeboaaAct8
import Derived.Deep.DeepCutAuto
namespace Go.Proofs.Ytacognejefeboaa.headerPlays
open Go.ChangeShapes Go.WideShapes Go.ChangeAt Go.RowKit
set_option linter.unusedVariables false

theorem own : ownKnob Try.prog.godebug = none := by kernel_rfl

/-! The walk. -/
set_option maxRecDepth 20000 in
set_option maxHeartbeats 80000000 in
theorem walk (a0 : Int) (a1 : Option Addr) (len1 cap1 : Nat) (w : World) (w0 : (Lit.int .i64 a0).wf = true) (w1 : IsActs w a1 len1) :
    Calls Try.prog 3 #[.int .i64 a0, .slice a1 len1 cap1] w fun e w' => e = .returned (.bool true) ∧ Below w.heap.size w w' := by
  have hpg := i64_range w0
  obtain ⟨hlen, ls, hls, hacts⟩ := w1
  have HA := Lib.hid (show len1 = ls.length ∧ Acts w a1 ls from ⟨hls, hacts⟩)
  clear hls hacts
  obtain ⟨P, hP⟩ : ∃ P : Nat, (P : Int) = min (max a0 1) 1048576 := ⟨(min (max a0 1) 1048576).toNat, by omega⟩
  have hP1 : 1 ≤ P := by omega
  have hP2 : P ≤ 1048576 := by omega
  have HP := Lib.hid hP
  clear hP hpg w0
  go_enter Try.func3, Try.ntmps3
  go_wp2_with fail
  refine (awake_any _).mono ?_
  rintro e w1 ⟨rfl, b1⟩
  have B1 := Lib.hid b1
  clear b1
  go_wp2_with fail
  refine (few_any w1 a1 ls len1 cap1 HA.out.1 (HA.out.2.below B1.out) hlen).mono ?_
  rintro e w' ⟨rfl, rfl⟩
  by_cases hf : fewB ls = true
  · have hl30 := fewB_len hf
    have HF := Lib.hid hf
    have hz30 : len1 ≤ 30 := by have := HA.out.1; omega
    go_wp2_with fail
    refine (at_new (w0 := w) B1.out a0 P HP.out).mono ?_
    rintro e w2 ⟨s, O2, rfl, A2⟩
    have H2 := Lib.hid A2
    clear A2
    go_wp2_with fail
    refine (rnew_any a0 P HP.out _).mono ?_
    rintro e w3 ⟨rfl, b3⟩
    have H3 := Lib.hid (H2.out.same b3)
    have hO3 : ¬ O2 w3.heap.size := fun e => by have := H2.out.sp.lt e; have := b3.size; omega
    go_wp2_with fail
    have st : Rel w (w3.alloc (.cells #[.int .i64 (P : Int), .slice none 0 0, .int .i64 0] 29)) s w3.heap.size P 0 := by
      have cm := fun j => World.cell?_alloc_mark w3 #[.int .i64 (P : Int), .slice none 0 0, .int .i64 0] 29 (0, 0) j
      have fm := fun j => World.frozen?_alloc_mark w3 #[.int .i64 (P : Int), .slice none 0 0, .int .i64 0] 29 0 0 j
      refine ⟨0, O2, [], none, 0, by rw [M.byteAt_nil]; exact H3.out.alloc _, ⟨(cm 0).trans rfl, (cm 1).trans rfl, (cm 2).trans rfl, fun j => by rw [fm j]; simp, Lies.nil, fun _ => ⟨rfl, rfl⟩, fun h => absurd h (by simp), fun e he => (by cases he), hO3⟩, by omega, Nat.le_refl _, H3.out.bel.size⟩
    generalize hw4 : w3.alloc (.cells #[.int .i64 (P : Int), .slice none 0 0, .int .i64 0] 29) = w4 at *
    clear hw4
    generalize hbwe : w3.heap.size = bw at *
    have ST := Lib.hid st
    clear st b3 hO3 hbwe
    go_loopw [9, 10, 11, 12, 13, 14] (fun i va vx vy ve vf wr => ∃ k : Nat, k ≤ len1 ∧ i = .int .i64 (k : Int) ∧ Rel w wr s bw P k) (fun i va vx vy ve vf _ => len1 - (intOf i).toNat)
    case atStart => exact ⟨0, by omega, rfl, ST.out⟩
    case round =>
      obtain ⟨k, hk, rfl, hrel⟩ := hrel
      by_cases hlt : k < len1
      · have hkl : k < ls.length := by have := HA.out.1; omega
        obtain ⟨bl, o, rfl, hc⟩ := HA.out.2 (by omega)
        obtain ⟨T, O, l, A, c, at0, rf0, hT, hll, lo⟩ := hrel
        have hx0 := hc k hkl
        have hx := hx0.below at0.bel
        have hl100 := fewB_all HF.out k hkl
        generalize hxe : ls[k] = x at hx hx0 hl100
        have c0 := hx.c0
        have c1 := hx.c1
        have c2 := hx.c2
        have c3 := hx.c3
        have c4 := hx.c4
        have c5 := hx.c5
        have c6 := hx.c6
        have c7 := hx.c7
        have n0 := hx.d
        have ntop := hx.top
        have ncap := hx.cap
        have HX := Lib.hid (show HeadOk x.h ∧ x.at' < 18446744073709551616 ∧ x.len = x.b.length ∧ Lies w x.A (u8s x.b) ∧ x.len ≤ 100 from ⟨hx.h, hx.at', hx.len, hx0.lies, hl100⟩)
        have st := Rel.start at0 rf0 lo x
        have R0 := Lib.hid (show T ≤ k * 4194304 ∧ l.length ≤ k ∧ Below w.heap.size w wr from ⟨hT, hll, at0.bel⟩)
        obtain ⟨xd, xx, ⟨xp, xk, xo, xn⟩, xa, xA, xl, xc, xb⟩ := x
        simp only at c0 c1 c2 c3 c4 c5 c6 c7 n0 ntop ncap hl100
        clear hx hx0 hxe hc at0 rf0 hT hll hk lo
        go_upto_region 17 with fail
        clear c0 c1 c2 c3 c4 c5 c6 c7
        obtain ⟨v1, hv1⟩ : ∃ v1, v1 = ((wr.alloc (.cells #[.int .u8 (xd : Int), .int .i64 xx, .int .i64 xp, .int .i64 xk, .int .u64 (xo : Int), .int .u64 (xn : Int), .int .u64 (xa : Int), .slice xA xl xc] 36)).alloc (.cells #[.int .i64 0, .int .i64 0, .int .u64 0, .int .u64 0] 33)).alloc (.cells #[.int .i64 0, .int .i64 0, .int .u64 0, .int .u64 0] 37) := ⟨_, rfl⟩
        rw [← hv1]
        obtain ⟨gy, hgy⟩ : ∃ z, z = wr.heap.size + 1 + 1 := ⟨_, rfl⟩
        obtain ⟨gx, hgx⟩ : ∃ z, z = wr.heap.size + 1 := ⟨_, rfl⟩
        obtain ⟨ba, hba⟩ : ∃ z, z = wr.heap.size := ⟨_, rfl⟩
        have st : Rd w v1 s bw P T T (M.byteAt l) O l A c ba gx gy ⟨xd, xx, ⟨xp, xk, xo, xn⟩, xa, xA, xl, xc, xb⟩ (.int .i64 0) (.int .i64 0) (.int .u64 0) (.int .u64 0) (.int .i64 0) (.int .i64 0) (.int .u64 0) (.int .u64 0) := by
          rw [hv1, hgy, hgx, hba]
          exact st
        first | rw [← hgy] | rw [show wr.heap.size + 2 = gy by omega] | skip
        first | rw [← hgx] | skip
        first | rw [← hba] | skip
        obtain ⟨ln, hln⟩ : ∃ ln, ln = l.length := ⟨_, rfl⟩
        have a0' := st.ac.c0
        have hT30 : T ≤ 125829120 := t30 R0.out.1 (by omega)
        have hl31 : ln ≤ 30 := by have := R0.out.2.1; omega
        have R1 := Lib.hid (show _ ∧ ln = l.length from ⟨st, hln⟩)
        simp only at a0'
        clear st hln hv1 hgy hgx hba
        by_cases d0 : xd = 0
        · subst d0
          obtain ⟨xd', hxd'⟩ : ∃ z : Nat, z = 0 := ⟨_, rfl⟩
          rw [← hxd'] at R1
          clear hxd'
          have hdoc := fun (W : World) (hW : Below v1.heap.size v1 W) => docWrite W P A ln c T hP2 l R1.out.2 (Lies.below R1.out.1.rf.log hW) R1.out.1.rf.ok (by omega) (fun h => R1.out.1.rf.emp (by have := R1.out.2; omega)) (by omega) xx xp xk xo xn HX.out.1.o HX.out.1.n
          have hpro := fun (v3 : World) (at3 : At w v3 s P T (M.byteAt l) O) => at_write at3 xx xp xk xo xn HX.out.1.o HX.out.1.n (by omega)
          have htk : wT P xx xp xk ≤ 2097156 := by unfold wT; split <;> omega
          generalize hge : wE P xx xp xk = er at *
          generalize hgt : wT P xx xp xk = tk at *
          generalize hgf : wF P (M.byteAt l) xx xp xk xo xn = ff at *
          have HD := Lib.hid hdoc
          have HPR := Lib.hid hpro
          clear hdoc hpro hge hgt hgf
          have r0 := R1.out.1.rf.c0
          have r1 := R1.out.1.rf.c1
          have r2 := R1.out.1.rf.c2
          rw [← R1.out.2] at r1
          have a1' := R1.out.1.ac.c1
          have a2' := R1.out.1.ac.c2
          have a3' := R1.out.1.ac.c3
          have a4' := R1.out.1.ac.c4
          have a5' := R1.out.1.ac.c5
          simp only at a1' a2' a3' a4' a5'
          have HSS := Lib.hid (show ∀ W, Below v1.heap.size v1 W → W.cell? ⟨ba, 1, none⟩ = some (.int .i64 xx) ∧ W.cell? ⟨ba, 2, none⟩ = some (.int .i64 xp) ∧ W.cell? ⟨ba, 3, none⟩ = some (.int .i64 xk) ∧ W.cell? ⟨ba, 4, none⟩ = some (.int .u64 (xo : Int)) ∧ W.cell? ⟨ba, 5, none⟩ = some (.int .u64 (xn : Int)) from
            fun W hW => ⟨(R1.out.1.below hW).ac.c1, (R1.out.1.below hW).ac.c2, (R1.out.1.below hW).ac.c3, (R1.out.1.below hW).ac.c4, (R1.out.1.below hW).ac.c5⟩)
          have HRR := Lib.hid (show ∀ W, Below v1.heap.size v1 W → W.cell? ⟨bw, 0, none⟩ = some (.int .i64 (P : Int)) ∧ W.cell? ⟨bw, 1, none⟩ = some (.slice A ln c) ∧ W.cell? ⟨bw, 2, none⟩ = some (.int .i64 (T : Int)) from
            fun W hW => ⟨(R1.out.1.below hW).rf.c0, by rw [R1.out.2]; exact (R1.out.1.below hW).rf.c1, (R1.out.1.below hW).rf.c2⟩)
          have B0 := Lib.hid ((Below.refl v1.heap.size v1).drew)
          clear r0 r1 r2
          clear a1' a2' a3' a4' a5'
          go_wp2_with fail
          obtain ⟨y0, hy0⟩ : ∃ y0, y0 = v1.drew := ⟨_, rfl⟩
          rw [← hy0] at B0
          refine wp_region_noPanic ?_
          refine wp_region_held_drew (S := fun W => W.cell? ⟨ba, 1, none⟩ = some (.int .i64 xx) ∧ W.cell? ⟨ba, 2, none⟩ = some (.int .i64 xp) ∧ W.cell? ⟨ba, 3, none⟩ = some (.int .i64 xk) ∧ W.cell? ⟨ba, 4, none⟩ = some (.int .u64 (xo : Int)) ∧ W.cell? ⟨ba, 5, none⟩ = some (.int .u64 (xn : Int))) (by kernel_rfl) (by have h := HSS.out _ B0.out; rw [hy0] at h; exact h) (fun hHeld => ?_)
          rw [← hy0] at hHeld ⊢
          clear hy0
          refine wpAnyH_take (i := 1) (oi := ({ dst := some 62, op := Op.fieldAddr 36 (Operand.tmp 10) 1, type := 0, pos := "law.go:70", after := #[], guard := none } : Oper)) (v := ?_) rfl (by kernel_rfl) (by kernel_rfl) (by kernel_rfl) (fun _ _ _ h => h) (Or.inl ⟨by rfl, ?_⟩) (by assumption) ?_
          rotate_left
          · (intro w hSw; (try dsimp only at hSw); go_simp) <;> with_reducible rfl
          (try simp only [Act.put, List.setIfInBounds_toArray, List.set_cons_zero, List.set_cons_succ])
          refine wpAnyH_take (i := 2) (oi := ({ dst := some 63, op := Op.load 3 (Operand.tmp 62), type := 3, pos := "law.go:70", after := #[{ on := 1, ground := Ground.data }], guard := none } : Oper)) (v := ?_) rfl (by kernel_rfl) (by kernel_rfl) (by kernel_rfl) (fun _ _ _ h => h) (Or.inl ⟨by rfl, ?_⟩) (by assumption) ?_
          rotate_left
          · (intro w hSw; (try dsimp only at hSw); go_simp) <;> with_reducible rfl
          (try simp only [Act.put, List.setIfInBounds_toArray, List.set_cons_zero, List.set_cons_succ])
          refine wpAnyH_take (i := 3) (oi := ({ dst := some 64, op := Op.fieldAddr 36 (Operand.tmp 10) 2, type := 0, pos := "law.go:70", after := #[], guard := none } : Oper)) (v := ?_) rfl (by kernel_rfl) (by kernel_rfl) (by kernel_rfl) (fun _ _ _ h => h) (Or.inl ⟨by rfl, ?_⟩) (by assumption) ?_
          rotate_left
          · (intro w hSw; (try dsimp only at hSw); go_simp) <;> with_reducible rfl
          (try simp only [Act.put, List.setIfInBounds_toArray, List.set_cons_zero, List.set_cons_succ])
          refine wpAnyH_take (i := 4) (oi := ({ dst := some 65, op := Op.load 33 (Operand.tmp 64), type := 33, pos := "law.go:70", after := #[{ on := 3, ground := Ground.data }], guard := none } : Oper)) (v := ?_) rfl (by kernel_rfl) (by kernel_rfl) (by kernel_rfl) (fun _ _ _ h => h) (Or.inl ⟨by rfl, ?_⟩) (by assumption) ?_
          rotate_left
          · (intro w hSw; (try dsimp only at hSw); go_simp) <;> with_reducible rfl
          (try simp only [Act.put, List.setIfInBounds_toArray, List.set_cons_zero, List.set_cons_succ])
          refine wpAnyH_ready (rs := [0, 5]) (by kernel_rfl) (by simp) ?_
          refine AllReadyH.cons (o := ({ dst := some 61, op := Op.load 29 (Operand.tmp 8), type := 29, pos := "law.go:70", after := #[], guard := none } : Oper)) rfl (fun K hK => ?_) ?_
          · skip
            obtain ⟨r0, r1, r2⟩ := HRR.out _ B0.out
            go_simp
            clear r0 r1 r2
            refine hK.out _ _ ?_ (fun hHeld => ?_)
            · exact HSS.out _ B0.out
            clear hK K
            (try simp only [Act.put, List.setIfInBounds_toArray, List.set_cons_zero, List.set_cons_succ])
            refine wpAnyH_ready (rs := [5]) (by kernel_rfl) (by simp) ?_
            refine AllReadyH.cons (o := ({ dst := some 66, op := Op.call { callee := Callee.value (Operand.func 13), args := #[Operand.tmp 65], argTypes := #[33] }, type := 37, pos := "law.go:70", after := #[{ on := 4, ground := Ground.data }], guard := none } : Oper)) rfl (fun K hK => ?_) ?_
            · go_simp
              refine (model_any xp xk xo xn _).mono ?_
              rintro e y1 ⟨rfl, q1⟩
              have B1 := Lib.hid (below_call B0.out q1)
              clear q1
              go_wp2_with fail
              refine hK.out _ _ ?_ (fun hHeld => ?_)
              · exact HSS.out _ B1.out
              clear hK K
              (try simp only [Act.put, List.setIfInBounds_toArray, List.set_cons_zero, List.set_cons_succ])
              refine wpAnyH_ready (rs := [6]) (by kernel_rfl) (by simp) ?_
              refine AllReadyH.cons (o := ({ dst := some 67, op := Op.call { callee := Callee.value (Operand.func 12), args := #[Operand.tmp 61, Operand.tmp 63, Operand.tmp 66], argTypes := #[29, 3, 37] }, type := 39, pos := "law.go:70", after := #[{ on := 0, ground := Ground.data }, { on := 2, ground := Ground.data }, { on := 5, ground := Ground.data }, { on := 5, ground := Ground.chain }], guard := none } : Oper)) rfl (fun K hK => ?_) ?_
              · go_simp
                have QB := B1
                refine (HD.out y1 B1.out).mono ?_
                rintro e y2 ⟨l', A', c', n', T2, hT2, rfl, hn2, hlog, hfr, q2, hfb, hlen2, hok2⟩
                have HT2 := Lib.hid (And.intro hT2 hfb)
                have LEN := Lib.hid hlen2
                have B2 := Lib.hid (below_call B1.out q2)
                have rdd := R1.out.1.doc (T2 := T2) (below_call QB.out q2) hlog (hfr.from QB.out) hok2
                rw [← hn2] at rdd
                have RDD := Lib.hid rdd
                have s2 := R1.out.1.below (below_call QB.out q2)
                have r0 := s2.rf.c0
                have r1 := s2.rf.c1
                have r2 := s2.rf.c2
                have rz := s2.rf.fz
                rw [← R1.out.2] at r1
                clear rdd s2
                clear hT2 hn2 hlog hfr q2 hfb hlen2 hok2
                go_wp2_with fail
                refine hK.out _ _ ?_ (fun hHeld => ?_)
                · exact HSS.out _ B2.out
                clear hK K
                (try simp only [Act.put, List.setIfInBounds_toArray, List.set_cons_zero, List.set_cons_succ])
                refine wpAnyH_take (i := 7) (oi := ({ dst := some 60, op := Op.move (Operand.tmp 67), type := 39, pos := "law.go:70", after := #[{ on := 6, ground := Ground.data }], guard := none } : Oper)) (v := ?_) rfl (by kernel_rfl) (by kernel_rfl) (by kernel_rfl) (fun _ _ _ h => h) (Or.inl ⟨by rfl, ?_⟩) (by assumption) ?_
                rotate_left
                · (intro w hSw; (try dsimp only at hSw); go_simp) <;> with_reducible rfl
                (try simp only [Act.put, List.setIfInBounds_toArray, List.set_cons_zero, List.set_cons_succ])
                refine wpAnyH_take (i := 8) (oi := ({ dst := some 68, op := Op.extract (Operand.tmp 60) 0, type := 29, pos := "law.go:70", after := #[{ on := 7, ground := Ground.data }], guard := none } : Oper)) (v := ?_) rfl (by kernel_rfl) (by kernel_rfl) (by kernel_rfl) (fun _ _ _ h => h) (Or.inl ⟨by rfl, ?_⟩) (by assumption) ?_
                rotate_left
                · (intro w hSw; (try dsimp only at hSw); go_simp) <;> with_reducible rfl
                (try simp only [Act.put, List.setIfInBounds_toArray, List.set_cons_zero, List.set_cons_succ])
                refine wpAnyH_take (i := 9) (oi := ({ dst := some 69, op := Op.extract (Operand.tmp 60) 1, type := 38, pos := "law.go:70", after := #[{ on := 7, ground := Ground.data }, { on := 10, ground := Ground.gcOnly Departure.lateStores }], guard := none } : Oper)) (v := ?_) rfl (by kernel_rfl) (by kernel_rfl) (by kernel_rfl) (fun _ _ _ h => h) (Or.inl ⟨by rfl, ?_⟩) (by assumption) ?_
                rotate_left
                · (intro w hSw; (try dsimp only at hSw); go_simp) <;> with_reducible rfl
                (try simp only [Act.put, List.setIfInBounds_toArray, List.set_cons_zero, List.set_cons_succ])
                refine wpAnyH_ready (rs := [10]) (by kernel_rfl) (by simp) ?_
                refine AllReadyH.cons (o := ({ dst := none, op := Op.store 29 (Operand.tmp 8) (Operand.tmp 68), type := 0, pos := "law.go:70", after := #[{ on := 8, ground := Ground.data }, { on := 6, ground := Ground.chain }, { on := 0, ground := Ground.phase }, { on := 1, ground := Ground.phase }, { on := 2, ground := Ground.phase }, { on := 3, ground := Ground.phase }, { on := 4, ground := Ground.phase }, { on := 5, ground := Ground.phase }, { on := 6, ground := Ground.phase }, { on := 7, ground := Ground.phase }, { on := 8, ground := Ground.phase }, { on := 9, ground := Ground.textOnly Departure.lateStores }], guard := none } : Oper)) rfl (fun K hK => ?_) ?_
                · go_simp
                  refine hK.out _ _ ?_ (fun hHeld => ?_)
                  · exact ⟨RDD.out.ac.c1, RDD.out.ac.c2, RDD.out.ac.c3, RDD.out.ac.c4, RDD.out.ac.c5⟩
                  clear hK K
                  (try simp only [Act.put, List.setIfInBounds_toArray, List.set_cons_zero, List.set_cons_succ])
                  refine wpAnyH_take (i := 11) (oi := ({ dst := some 14, op := Op.assign (Operand.tmp 69), type := 38, pos := "law.go:70", after := #[{ on := 9, ground := Ground.data }, { on := 10, ground := Ground.chain }, { on := 0, ground := Ground.phase }, { on := 1, ground := Ground.phase }, { on := 2, ground := Ground.phase }, { on := 3, ground := Ground.phase }, { on := 4, ground := Ground.phase }, { on := 5, ground := Ground.phase }, { on := 6, ground := Ground.phase }, { on := 7, ground := Ground.phase }, { on := 8, ground := Ground.phase }, { on := 9, ground := Ground.phase }, { on := 10, ground := Ground.phase }], guard := none } : Oper)) (v := ?_) rfl (by kernel_rfl) (by kernel_rfl) (by kernel_rfl) (fun _ _ _ h => h) (Or.inl ⟨by rfl, ?_⟩) (by assumption) ?_
                  rotate_left
                  · (intro w hSw; (try dsimp only at hSw); go_simp) <;> with_reducible rfl
                  (try simp only [Act.put, List.setIfInBounds_toArray, List.set_cons_zero, List.set_cons_succ])
                  refine wpAnyH_done (by kernel_rfl) ?_ _
                  refine NoPanic.normal ?_
                  go_upto_region 22 with fail
                  clear r0 r1 r2 rz
                  obtain ⟨v3, hv3⟩ : ∃ v3, v3 = ((y2.setCell ⟨bw, 0, none⟩ (.int .i64 (P : Int))).setCell ⟨bw, 1, none⟩ (.slice A' n' c')).setCell ⟨bw, 2, none⟩ (.int .i64 (T2 : Int)) := ⟨_, rfl⟩
                  rw [← hv3]
                  have RD3 := Lib.hid (show Rd w v3 s bw P T T2 (M.byteAt l) O l' A' c' ba gx gy ⟨xd', xx, ⟨xp, xk, xo, xn⟩, xa, xA, xl, xc, xb⟩ (.int .i64 0) (.int .i64 0) (.int .u64 0) (.int .u64 0) (.int .i64 0) (.int .i64 0) (.int .u64 0) (.int .u64 0) from by rw [hv3]; exact RDD.out)
                  clear hv3 RDD
                  have a1' := RD3.out.ac.c1
                  have a2' := RD3.out.ac.c2
                  have a3' := RD3.out.ac.c3
                  have a4' := RD3.out.ac.c4
                  have a5' := RD3.out.ac.c5
                  simp only at a1' a2' a3' a4' a5'
                  go_wp2_with fail
                  refine (HPR.out v3 RD3.out.at').mono ?_
                  rintro e v4 ⟨rfl, at4, k4⟩
                  rw [← HT2.out.1] at at4
                  rw [← HT2.out.2] at at4
                  have RD4 := Lib.hid (RD3.out.pro at4 k4)
                  clear a1' a2' a3' a4' a5'
                  clear at4 k4
                  obtain ⟨v5, hv5⟩ : ∃ v5, v5 = v4 := ⟨_, rfl⟩
                  have RD5 := Lib.hid (show Rd w v5 s bw P T2 T2 (M.byteAt l') (Wid O v3 v4) l' A' c' ba gx gy ⟨xd', xx, ⟨xp, xk, xo, xn⟩, xa, xA, xl, xc, xb⟩ (.int .i64 0) (.int .i64 0) (.int .u64 0) (.int .u64 0) (.int .i64 0) (.int .i64 0) (.int .u64 0) (.int .u64 0) ∧ T2 ≤ T + 4194304 ∧ l'.length ≤ l.length + 1 from ⟨by rw [hv5]; exact RD4.out, by have := HT2.out.1; omega, LEN.out⟩)
                  rw [← hv5]
                  clear hv5 RD4 RD3
                  have HSS := Lib.hid (show ∀ W, Below v5.heap.size v5 W → (W.cell? ⟨gx, 0, none⟩ = some (.int .i64 0) ∧ W.cell? ⟨gx, 1, none⟩ = some (.int .i64 0) ∧ W.cell? ⟨gx, 2, none⟩ = some (.int .u64 0) ∧ W.cell? ⟨gx, 3, none⟩ = some (.int .u64 0)) ∧ (W.cell? ⟨gy, 0, none⟩ = some (.int .i64 0) ∧ W.cell? ⟨gy, 1, none⟩ = some (.int .i64 0) ∧ W.cell? ⟨gy, 2, none⟩ = some (.int .u64 0) ∧ W.cell? ⟨gy, 3, none⟩ = some (.int .u64 0)) ∧ W.cell? ⟨bw, 2, none⟩ = some (.int .i64 (T2 : Int)) from fun W hW => ⟨⟨(RD5.out.1.below hW).bx.c0, (RD5.out.1.below hW).bx.c1, (RD5.out.1.below hW).bx.c2, (RD5.out.1.below hW).bx.c3⟩, ⟨(RD5.out.1.below hW).by'.c0, (RD5.out.1.below hW).by'.c1, (RD5.out.1.below hW).by'.c2, (RD5.out.1.below hW).by'.c3⟩, (RD5.out.1.below hW).rf.c2⟩)
                  have B0 := Lib.hid ((Below.refl v5.heap.size v5).drew)
                  go_wp2_with fail
                  refine wp_region_noPanic ?_
                  refine wp_region_held_drew (S := fun W => (W.cell? ⟨gx, 0, none⟩ = some (.int .i64 0) ∧ W.cell? ⟨gx, 1, none⟩ = some (.int .i64 0) ∧ W.cell? ⟨gx, 2, none⟩ = some (.int .u64 0) ∧ W.cell? ⟨gx, 3, none⟩ = some (.int .u64 0)) ∧ (W.cell? ⟨gy, 0, none⟩ = some (.int .i64 0) ∧ W.cell? ⟨gy, 1, none⟩ = some (.int .i64 0) ∧ W.cell? ⟨gy, 2, none⟩ = some (.int .u64 0) ∧ W.cell? ⟨gy, 3, none⟩ = some (.int .u64 0)) ∧ W.cell? ⟨bw, 2, none⟩ = some (.int .i64 (T2 : Int))) (by kernel_rfl) (HSS.out _ B0.out) (fun hHeld => ?_)
                  refine wpAnyH_take (i := 0) (oi := ({ dst := some 125, op := Op.load 33 (Operand.tmp 11), type := 33, pos := "law.go:85", after := #[], guard := none } : Oper)) (v := ?_) rfl (by kernel_rfl) (by kernel_rfl) (by kernel_rfl) (fun _ _ _ h => h) (Or.inl ⟨by rfl, ?_⟩) (by assumption) ?_
                  rotate_left
                  · (intro w hSw; (try dsimp only at hSw); go_simp) <;> with_reducible rfl
                  (try simp only [Act.put, List.setIfInBounds_toArray, List.set_cons_zero, List.set_cons_succ])
                  refine wpAnyH_take (i := 2) (oi := ({ dst := some 127, op := Op.load 37 (Operand.tmp 12), type := 37, pos := "law.go:85", after := #[], guard := none } : Oper)) (v := ?_) rfl (by kernel_rfl) (by kernel_rfl) (by kernel_rfl) (fun _ _ _ h => h) (Or.inl ⟨by rfl, ?_⟩) (by assumption) ?_
                  rotate_left
                  · (intro w hSw; (try dsimp only at hSw); go_simp) <;> with_reducible rfl
                  (try simp only [Act.put, List.setIfInBounds_toArray, List.set_cons_zero, List.set_cons_succ])
                  refine wpAnyH_ready (rs := [1]) (by kernel_rfl) (by simp) ?_
                  refine AllReadyH.cons (o := ({ dst := some 126, op := Op.call { callee := Callee.value (Operand.func 13), args := #[Operand.tmp 125], argTypes := #[33] }, type := 37, pos := "law.go:85", after := #[{ on := 0, ground := Ground.data }], guard := none } : Oper)) rfl (fun K hK => ?_) ?_
                  · go_simp
                    refine (model_any 0 0 0 0 _).mono ?_
                    rintro e y5 ⟨rfl, q5⟩
                    have B5 := Lib.hid (below_call B0.out q5)
                    clear q5
                    go_wp2_with fail
                    refine hK.out _ _ ?_ (fun hHeld => ?_)
                    · exact HSS.out _ B5.out
                    clear hK K
                    (try simp only [Act.put, List.setIfInBounds_toArray, List.set_cons_zero, List.set_cons_succ])
                    refine wpAnyH_take (i := 3) (oi := ({ dst := some 128, op := Op.binOp BinOp.neq 37 (Operand.tmp 126) (Operand.tmp 127) 37, type := 4, pos := "law.go:85", after := #[{ on := 1, ground := Ground.data }, { on := 2, ground := Ground.data }], guard := none } : Oper)) (v := ?_) rfl (by kernel_rfl) (by kernel_rfl) (by kernel_rfl) (fun _ _ _ h => h) (Or.inl ⟨by rfl, ?_⟩) (by assumption) ?_
                    rotate_left
                    · (intro w hSw; (try dsimp only at hSw); go_simp) <;> with_reducible rfl
                    (try simp only [Act.put, List.setIfInBounds_toArray, List.set_cons_zero, List.set_cons_succ])
                    refine wpAnyH_take (i := 4) (oi := ({ dst := some 129, op := Op.move (Operand.tmp 128), type := 4, pos := "law.go:85", after := #[{ on := 3, ground := Ground.data }, { on := 1, ground := Ground.chain }], guard := none } : Oper)) (v := ?_) rfl (by kernel_rfl) (by kernel_rfl) (by kernel_rfl) (fun _ _ _ h => h) (Or.inl ⟨by rfl, ?_⟩) (by assumption) ?_
                    rotate_left
                    · (intro w hSw; (try dsimp only at hSw); go_simp) <;> with_reducible rfl
                    (try simp only [Act.put, List.setIfInBounds_toArray, List.set_cons_zero, List.set_cons_succ])
                    refine wpAnyH_take (i := 5) (oi := ({ dst := some 130, op := Op.move (Operand.tmp 13), type := 38, pos := "law.go:85", after := #[{ on := 4, ground := Ground.guard }], guard := some (4, false) } : Oper)) (v := ?_) rfl (by kernel_rfl) (by kernel_rfl) (by kernel_rfl) (fun _ _ _ h => h) (Or.inl ⟨by rfl, ?_⟩) (by assumption) ?_
                    rotate_left
                    · (intro w hSw; (try dsimp only at hSw); go_simp) <;> with_reducible rfl
                    (try simp only [Act.put, List.setIfInBounds_toArray, List.set_cons_zero, List.set_cons_succ])
                    refine wpAnyH_take (i := 6) (oi := ({ dst := some 131, op := Op.move (Operand.tmp 14), type := 38, pos := "law.go:85", after := #[{ on := 4, ground := Ground.guard }], guard := some (4, false) } : Oper)) (v := ?_) rfl (by kernel_rfl) (by kernel_rfl) (by kernel_rfl) (fun _ _ _ h => h) (Or.inl ⟨by rfl, ?_⟩) (by assumption) ?_
                    rotate_left
                    · (intro w hSw; (try dsimp only at hSw); go_simp) <;> with_reducible rfl
                    (try simp only [Act.put, List.setIfInBounds_toArray, List.set_cons_zero, List.set_cons_succ])
                    refine wpAnyH_take (i := 7) (oi := ({ dst := some 132, op := Op.binOp BinOp.neq 38 (Operand.tmp 130) (Operand.tmp 131) 38, type := 4, pos := "law.go:85", after := #[{ on := 5, ground := Ground.data }, { on := 6, ground := Ground.data }, { on := 4, ground := Ground.guard }], guard := some (4, false) } : Oper)) (v := ?_) rfl (by kernel_rfl) (by kernel_rfl) (by kernel_rfl) (fun _ _ _ h => h) (Or.inl ⟨by rfl, ?_⟩) (by assumption) ?_
                    rotate_left
                    · (intro w hSw; (try dsimp only at hSw); go_simp) <;> with_reducible rfl
                    (try simp only [Act.put, List.setIfInBounds_toArray, List.set_cons_zero, List.set_cons_succ])
                    refine wpAnyH_take (i := 8) (oi := ({ dst := some 133, op := Op.pick (Operand.tmp 129) (Operand.const (Value.bool true)) (Operand.tmp 132), type := 4, pos := "law.go:85", after := #[{ on := 4, ground := Ground.data }, { on := 7, ground := Ground.data }], guard := none } : Oper)) (v := ?_) rfl (by kernel_rfl) (by kernel_rfl) (by kernel_rfl) (fun _ _ _ h => h) (Or.inl ⟨by rfl, ?_⟩) (by assumption) ?_
                    rotate_left
                    · (intro w hSw; (try dsimp only at hSw); go_simp) <;> with_reducible rfl
                    (try simp only [Act.put, List.setIfInBounds_toArray, List.set_cons_zero, List.set_cons_succ])
                    refine wpAnyH_take (i := 9) (oi := ({ dst := some 134, op := Op.move (Operand.tmp 133), type := 4, pos := "law.go:85", after := #[{ on := 8, ground := Ground.data }, { on := 4, ground := Ground.chain }], guard := none } : Oper)) (v := ?_) rfl (by kernel_rfl) (by kernel_rfl) (by kernel_rfl) (fun _ _ _ h => h) (Or.inl ⟨by rfl, ?_⟩) (by assumption) ?_
                    rotate_left
                    · (intro w hSw; (try dsimp only at hSw); go_simp) <;> with_reducible rfl
                    (try simp only [Act.put, List.setIfInBounds_toArray, List.set_cons_zero, List.set_cons_succ])
                    refine wpAnyH_take (i := 10) (oi := ({ dst := some 135, op := Op.move (Operand.tmp 7), type := 25, pos := "law.go:85", after := #[{ on := 9, ground := Ground.guard }], guard := some (9, false) } : Oper)) (v := ?_) rfl (by kernel_rfl) (by kernel_rfl) (by kernel_rfl) (fun _ _ _ h => h) (Or.inl ⟨by rfl, ?_⟩) (by assumption) ?_
                    rotate_left
                    · (intro w hSw; (try dsimp only at hSw); go_simp) <;> with_reducible rfl
                    (try simp only [Act.put, List.setIfInBounds_toArray, List.set_cons_zero, List.set_cons_succ])
                    refine wpAnyH_take (i := 12) (oi := ({ dst := some 137, op := Op.fieldAddr 29 (Operand.tmp 8) 2, type := 0, pos := "law.go:85", after := #[{ on := 9, ground := Ground.guard }], guard := some (9, false) } : Oper)) (v := ?_) rfl (by kernel_rfl) (by kernel_rfl) (by kernel_rfl) (fun _ _ _ h => h) (Or.inl ⟨by rfl, ?_⟩) (by assumption) ?_
                    rotate_left
                    · (intro w hSw; (try dsimp only at hSw); go_simp) <;> with_reducible rfl
                    (try simp only [Act.put, List.setIfInBounds_toArray, List.set_cons_zero, List.set_cons_succ])
                    refine wpAnyH_take (i := 13) (oi := ({ dst := some 138, op := Op.load 3 (Operand.tmp 137), type := 3, pos := "law.go:85", after := #[{ on := 12, ground := Ground.data }, { on := 9, ground := Ground.guard }], guard := some (9, false) } : Oper)) (v := ?_) rfl (by kernel_rfl) (by kernel_rfl) (by kernel_rfl) (fun _ _ _ h => h) (Or.inl ⟨by rfl, ?_⟩) (by assumption) ?_
                    rotate_left
                    · (intro w hSw; (try dsimp only at hSw); go_simp) <;> with_reducible rfl
                    (try simp only [Act.put, List.setIfInBounds_toArray, List.set_cons_zero, List.set_cons_succ])
                    refine wpAnyH_ready (rs := [11]) (by kernel_rfl) (by simp) ?_
                    refine AllReadyH.cons (o := ({ dst := some 136, op := Op.call { callee := Callee.value (Operand.func 23), args := #[Operand.tmp 135], argTypes := #[25] }, type := 3, pos := "law.go:85", after := #[{ on := 10, ground := Ground.data }, { on := 9, ground := Ground.chain }, { on := 9, ground := Ground.guard }], guard := some (9, false) } : Oper)) rfl (fun K hK => ?_) ?_
                    · go_simp
                      refine (ticks_at (RD5.out.1.below B5.out).at').mono ?_
                      rintro e w' ⟨rfl, rfl⟩
                      go_wp2_with fail
                      refine hK.out _ _ ?_ (fun hHeld => ?_)
                      · exact HSS.out _ B5.out
                      clear hK K
                      (try simp only [Act.put, List.setIfInBounds_toArray, List.set_cons_zero, List.set_cons_succ])
                      refine wpAnyH_take (i := 14) (oi := ({ dst := some 139, op := Op.binOp BinOp.neq 3 (Operand.tmp 136) (Operand.tmp 138) 3, type := 4, pos := "law.go:85", after := #[{ on := 11, ground := Ground.data }, { on := 13, ground := Ground.data }, { on := 9, ground := Ground.guard }], guard := some (9, false) } : Oper)) (v := ?_) rfl (by kernel_rfl) (by kernel_rfl) (by kernel_rfl) (fun _ _ _ h => h) (Or.inl ⟨by rfl, ?_⟩) (by assumption) ?_
                      rotate_left
                      · (intro w hSw; (try dsimp only at hSw); go_simp) <;> with_reducible rfl
                      (try simp only [Act.put, List.setIfInBounds_toArray, List.set_cons_zero, List.set_cons_succ])
                      refine wpAnyH_take (i := 15) (oi := ({ dst := some 140, op := Op.pick (Operand.tmp 134) (Operand.const (Value.bool true)) (Operand.tmp 139), type := 4, pos := "law.go:85", after := #[{ on := 9, ground := Ground.data }, { on := 14, ground := Ground.data }], guard := none } : Oper)) (v := ?_) rfl (by kernel_rfl) (by kernel_rfl) (by kernel_rfl) (fun _ _ _ h => h) (Or.inl ⟨by rfl, ?_⟩) (by assumption) ?_
                      rotate_left
                      · (intro w hSw; (try dsimp only at hSw); go_simp) <;> with_reducible rfl
                      (try simp only [Act.put, List.setIfInBounds_toArray, List.set_cons_zero, List.set_cons_succ])
                      refine wpAnyH_done (by kernel_rfl) ?_ _
                      refine NoPanic.normal ?_
                      go_wp2_with fail
                      go_roundw
                      case rel => exact ⟨k + 1, by omega, by go_num, T2, _, _, _, _, (RD5.out.1.below B5.out).at', (RD5.out.1.below B5.out).rf, by have := RD5.out.2.1; have := R0.out.1; omega, by have := RD5.out.2.2; have := R0.out.2.1; omega, RD5.out.1.lo⟩
                      case measure => simp [intOf]; omega
                    exact AllReadyH.nil
                  exact AllReadyH.nil
                  
                exact AllReadyH.nil
              exact AllReadyH.nil
            exact AllReadyH.nil
          refine AllReadyH.cons (o := ({ dst := some 66, op := Op.call { callee := Callee.value (Operand.func 13), args := #[Operand.tmp 65], argTypes := #[33] }, type := 37, pos := "law.go:70", after := #[{ on := 4, ground := Ground.data }], guard := none } : Oper)) rfl (fun K hK => ?_) ?_
          · go_simp
            refine (model_any xp xk xo xn _).mono ?_
            rintro e y1 ⟨rfl, q1⟩
            have B1 := Lib.hid (below_call B0.out q1)
            clear q1
            go_wp2_with fail
            refine hK.out _ _ ?_ (fun hHeld => ?_)
            · exact HSS.out _ B1.out
            clear hK K
            (try simp only [Act.put, List.setIfInBounds_toArray, List.set_cons_zero, List.set_cons_succ])
            refine wpAnyH_ready (rs := [0]) (by kernel_rfl) (by simp) ?_
            refine AllReadyH.cons (o := ({ dst := some 61, op := Op.load 29 (Operand.tmp 8), type := 29, pos := "law.go:70", after := #[], guard := none } : Oper)) rfl (fun K hK => ?_) ?_
            · skip
              obtain ⟨r0, r1, r2⟩ := HRR.out _ B1.out
              go_simp
              clear r0 r1 r2
              refine hK.out _ _ ?_ (fun hHeld => ?_)
              · exact HSS.out _ B1.out
              clear hK K
              (try simp only [Act.put, List.setIfInBounds_toArray, List.set_cons_zero, List.set_cons_succ])
              refine wpAnyH_ready (rs := [6]) (by kernel_rfl) (by simp) ?_
              refine AllReadyH.cons (o := ({ dst := some 67, op := Op.call { callee := Callee.value (Operand.func 12), args := #[Operand.tmp 61, Operand.tmp 63, Operand.tmp 66], argTypes := #[29, 3, 37] }, type := 39, pos := "law.go:70", after := #[{ on := 0, ground := Ground.data }, { on := 2, ground := Ground.data }, { on := 5, ground := Ground.data }, { on := 5, ground := Ground.chain }], guard := none } : Oper)) rfl (fun K hK => ?_) ?_
              · go_simp
                have QB := B1
                refine (HD.out y1 B1.out).mono ?_
                rintro e y2 ⟨l', A', c', n', T2, hT2, rfl, hn2, hlog, hfr, q2, hfb, hlen2, hok2⟩
                have HT2 := Lib.hid (And.intro hT2 hfb)
                have LEN := Lib.hid hlen2
                have B2 := Lib.hid (below_call B1.out q2)
                have rdd := R1.out.1.doc (T2 := T2) (below_call QB.out q2) hlog (hfr.from QB.out) hok2
                rw [← hn2] at rdd
                have RDD := Lib.hid rdd
                have s2 := R1.out.1.below (below_call QB.out q2)
                have r0 := s2.rf.c0
                have r1 := s2.rf.c1
                have r2 := s2.rf.c2
                have rz := s2.rf.fz
                rw [← R1.out.2] at r1
                clear rdd s2
                clear hT2 hn2 hlog hfr q2 hfb hlen2 hok2
                go_wp2_with fail
                refine hK.out _ _ ?_ (fun hHeld => ?_)
                · exact HSS.out _ B2.out
                clear hK K
                (try simp only [Act.put, List.setIfInBounds_toArray, List.set_cons_zero, List.set_cons_succ])
                refine wpAnyH_take (i := 7) (oi := ({ dst := some 60, op := Op.move (Operand.tmp 67), type := 39, pos := "law.go:70", after := #[{ on := 6, ground := Ground.data }], guard := none } : Oper)) (v := ?_) rfl (by kernel_rfl) (by kernel_rfl) (by kernel_rfl) (fun _ _ _ h => h) (Or.inl ⟨by rfl, ?_⟩) (by assumption) ?_
                rotate_left
                · (intro w hSw; (try dsimp only at hSw); go_simp) <;> with_reducible rfl
                (try simp only [Act.put, List.setIfInBounds_toArray, List.set_cons_zero, List.set_cons_succ])
                refine wpAnyH_take (i := 8) (oi := ({ dst := some 68, op := Op.extract (Operand.tmp 60) 0, type := 29, pos := "law.go:70", after := #[{ on := 7, ground := Ground.data }], guard := none } : Oper)) (v := ?_) rfl (by kernel_rfl) (by kernel_rfl) (by kernel_rfl) (fun _ _ _ h => h) (Or.inl ⟨by rfl, ?_⟩) (by assumption) ?_
                rotate_left
                · (intro w hSw; (try dsimp only at hSw); go_simp) <;> with_reducible rfl
                (try simp only [Act.put, List.setIfInBounds_toArray, List.set_cons_zero, List.set_cons_succ])
                refine wpAnyH_take (i := 9) (oi := ({ dst := some 69, op := Op.extract (Operand.tmp 60) 1, type := 38, pos := "law.go:70", after := #[{ on := 7, ground := Ground.data }, { on := 10, ground := Ground.gcOnly Departure.lateStores }], guard := none } : Oper)) (v := ?_) rfl (by kernel_rfl) (by kernel_rfl) (by kernel_rfl) (fun _ _ _ h => h) (Or.inl ⟨by rfl, ?_⟩) (by assumption) ?_
                rotate_left
                · (intro w hSw; (try dsimp only at hSw); go_simp) <;> with_reducible rfl
                (try simp only [Act.put, List.setIfInBounds_toArray, List.set_cons_zero, List.set_cons_succ])
                refine wpAnyH_ready (rs := [10]) (by kernel_rfl) (by simp) ?_
                refine AllReadyH.cons (o := ({ dst := none, op := Op.store 29 (Operand.tmp 8) (Operand.tmp 68), type := 0, pos := "law.go:70", after := #[{ on := 8, ground := Ground.data }, { on := 6, ground := Ground.chain }, { on := 0, ground := Ground.phase }, { on := 1, ground := Ground.phase }, { on := 2, ground := Ground.phase }, { on := 3, ground := Ground.phase }, { on := 4, ground := Ground.phase }, { on := 5, ground := Ground.phase }, { on := 6, ground := Ground.phase }, { on := 7, ground := Ground.phase }, { on := 8, ground := Ground.phase }, { on := 9, ground := Ground.textOnly Departure.lateStores }], guard := none } : Oper)) rfl (fun K hK => ?_) ?_
                · go_simp
                  refine hK.out _ _ ?_ (fun hHeld => ?_)
                  · exact ⟨RDD.out.ac.c1, RDD.out.ac.c2, RDD.out.ac.c3, RDD.out.ac.c4, RDD.out.ac.c5⟩
                  clear hK K
                  (try simp only [Act.put, List.setIfInBounds_toArray, List.set_cons_zero, List.set_cons_succ])
                  refine wpAnyH_take (i := 11) (oi := ({ dst := some 14, op := Op.assign (Operand.tmp 69), type := 38, pos := "law.go:70", after := #[{ on := 9, ground := Ground.data }, { on := 10, ground := Ground.chain }, { on := 0, ground := Ground.phase }, { on := 1, ground := Ground.phase }, { on := 2, ground := Ground.phase }, { on := 3, ground := Ground.phase }, { on := 4, ground := Ground.phase }, { on := 5, ground := Ground.phase }, { on := 6, ground := Ground.phase }, { on := 7, ground := Ground.phase }, { on := 8, ground := Ground.phase }, { on := 9, ground := Ground.phase }, { on := 10, ground := Ground.phase }], guard := none } : Oper)) (v := ?_) rfl (by kernel_rfl) (by kernel_rfl) (by kernel_rfl) (fun _ _ _ h => h) (Or.inl ⟨by rfl, ?_⟩) (by assumption) ?_
                  rotate_left
                  · (intro w hSw; (try dsimp only at hSw); go_simp) <;> with_reducible rfl
                  (try simp only [Act.put, List.setIfInBounds_toArray, List.set_cons_zero, List.set_cons_succ])
                  refine wpAnyH_done (by kernel_rfl) ?_ _
                  refine NoPanic.normal ?_
                  go_upto_region 22 with fail
                  clear r0 r1 r2 rz
                  obtain ⟨v3, hv3⟩ : ∃ v3, v3 = ((y2.setCell ⟨bw, 0, none⟩ (.int .i64 (P : Int))).setCell ⟨bw, 1, none⟩ (.slice A' n' c')).setCell ⟨bw, 2, none⟩ (.int .i64 (T2 : Int)) := ⟨_, rfl⟩
                  rw [← hv3]
                  have RD3 := Lib.hid (show Rd w v3 s bw P T T2 (M.byteAt l) O l' A' c' ba gx gy ⟨xd', xx, ⟨xp, xk, xo, xn⟩, xa, xA, xl, xc, xb⟩ (.int .i64 0) (.int .i64 0) (.int .u64 0) (.int .u64 0) (.int .i64 0) (.int .i64 0) (.int .u64 0) (.int .u64 0) from by rw [hv3]; exact RDD.out)
                  clear hv3 RDD
                  have a1' := RD3.out.ac.c1
                  have a2' := RD3.out.ac.c2
                  have a3' := RD3.out.ac.c3
                  have a4' := RD3.out.ac.c4
                  have a5' := RD3.out.ac.c5
                  simp only at a1' a2' a3' a4' a5'
                  go_wp2_with fail
                  refine (HPR.out v3 RD3.out.at').mono ?_
                  rintro e v4 ⟨rfl, at4, k4⟩
                  rw [← HT2.out.1] at at4
                  rw [← HT2.out.2] at at4
                  have RD4 := Lib.hid (RD3.out.pro at4 k4)
                  clear a1' a2' a3' a4' a5'
                  clear at4 k4
                  obtain ⟨v5, hv5⟩ : ∃ v5, v5 = v4 := ⟨_, rfl⟩
                  have RD5 := Lib.hid (show Rd w v5 s bw P T2 T2 (M.byteAt l') (Wid O v3 v4) l' A' c' ba gx gy ⟨xd', xx, ⟨xp, xk, xo, xn⟩, xa, xA, xl, xc, xb⟩ (.int .i64 0) (.int .i64 0) (.int .u64 0) (.int .u64 0) (.int .i64 0) (.int .i64 0) (.int .u64 0) (.int .u64 0) ∧ T2 ≤ T + 4194304 ∧ l'.length ≤ l.length + 1 from ⟨by rw [hv5]; exact RD4.out, by have := HT2.out.1; omega, LEN.out⟩)
                  rw [← hv5]
                  clear hv5 RD4 RD3
                  have HSS := Lib.hid (show ∀ W, Below v5.heap.size v5 W → (W.cell? ⟨gx, 0, none⟩ = some (.int .i64 0) ∧ W.cell? ⟨gx, 1, none⟩ = some (.int .i64 0) ∧ W.cell? ⟨gx, 2, none⟩ = some (.int .u64 0) ∧ W.cell? ⟨gx, 3, none⟩ = some (.int .u64 0)) ∧ (W.cell? ⟨gy, 0, none⟩ = some (.int .i64 0) ∧ W.cell? ⟨gy, 1, none⟩ = some (.int .i64 0) ∧ W.cell? ⟨gy, 2, none⟩ = some (.int .u64 0) ∧ W.cell? ⟨gy, 3, none⟩ = some (.int .u64 0)) ∧ W.cell? ⟨bw, 2, none⟩ = some (.int .i64 (T2 : Int)) from fun W hW => ⟨⟨(RD5.out.1.below hW).bx.c0, (RD5.out.1.below hW).bx.c1, (RD5.out.1.below hW).bx.c2, (RD5.out.1.below hW).bx.c3⟩, ⟨(RD5.out.1.below hW).by'.c0, (RD5.out.1.below hW).by'.c1, (RD5.out.1.below hW).by'.c2, (RD5.out.1.below hW).by'.c3⟩, (RD5.out.1.below hW).rf.c2⟩)
                  have B0 := Lib.hid ((Below.refl v5.heap.size v5).drew)
                  go_wp2_with fail
                  refine wp_region_noPanic ?_
                  refine wp_region_held_drew (S := fun W => (W.cell? ⟨gx, 0, none⟩ = some (.int .i64 0) ∧ W.cell? ⟨gx, 1, none⟩ = some (.int .i64 0) ∧ W.cell? ⟨gx, 2, none⟩ = some (.int .u64 0) ∧ W.cell? ⟨gx, 3, none⟩ = some (.int .u64 0)) ∧ (W.cell? ⟨gy, 0, none⟩ = some (.int .i64 0) ∧ W.cell? ⟨gy, 1, none⟩ = some (.int .i64 0) ∧ W.cell? ⟨gy, 2, none⟩ = some (.int .u64 0) ∧ W.cell? ⟨gy, 3, none⟩ = some (.int .u64 0)) ∧ W.cell? ⟨bw, 2, none⟩ = some (.int .i64 (T2 : Int))) (by kernel_rfl) (HSS.out _ B0.out) (fun hHeld => ?_)
                  refine wpAnyH_take (i := 0) (oi := ({ dst := some 125, op := Op.load 33 (Operand.tmp 11), type := 33, pos := "law.go:85", after := #[], guard := none } : Oper)) (v := ?_) rfl (by kernel_rfl) (by kernel_rfl) (by kernel_rfl) (fun _ _ _ h => h) (Or.inl ⟨by rfl, ?_⟩) (by assumption) ?_
                  rotate_left
                  · (intro w hSw; (try dsimp only at hSw); go_simp) <;> with_reducible rfl
                  (try simp only [Act.put, List.setIfInBounds_toArray, List.set_cons_zero, List.set_cons_succ])
                  refine wpAnyH_take (i := 2) (oi := ({ dst := some 127, op := Op.load 37 (Operand.tmp 12), type := 37, pos := "law.go:85", after := #[], guard := none } : Oper)) (v := ?_) rfl (by kernel_rfl) (by kernel_rfl) (by kernel_rfl) (fun _ _ _ h => h) (Or.inl ⟨by rfl, ?_⟩) (by assumption) ?_
                  rotate_left
                  · (intro w hSw; (try dsimp only at hSw); go_simp) <;> with_reducible rfl
                  (try simp only [Act.put, List.setIfInBounds_toArray, List.set_cons_zero, List.set_cons_succ])
                  refine wpAnyH_ready (rs := [1]) (by kernel_rfl) (by simp) ?_
                  refine AllReadyH.cons (o := ({ dst := some 126, op := Op.call { callee := Callee.value (Operand.func 13), args := #[Operand.tmp 125], argTypes := #[33] }, type := 37, pos := "law.go:85", after := #[{ on := 0, ground := Ground.data }], guard := none } : Oper)) rfl (fun K hK => ?_) ?_
                  · go_simp
                    refine (model_any 0 0 0 0 _).mono ?_
                    rintro e y5 ⟨rfl, q5⟩
                    have B5 := Lib.hid (below_call B0.out q5)
                    clear q5
                    go_wp2_with fail
                    refine hK.out _ _ ?_ (fun hHeld => ?_)
                    · exact HSS.out _ B5.out
                    clear hK K
                    (try simp only [Act.put, List.setIfInBounds_toArray, List.set_cons_zero, List.set_cons_succ])
                    refine wpAnyH_take (i := 3) (oi := ({ dst := some 128, op := Op.binOp BinOp.neq 37 (Operand.tmp 126) (Operand.tmp 127) 37, type := 4, pos := "law.go:85", after := #[{ on := 1, ground := Ground.data }, { on := 2, ground := Ground.data }], guard := none } : Oper)) (v := ?_) rfl (by kernel_rfl) (by kernel_rfl) (by kernel_rfl) (fun _ _ _ h => h) (Or.inl ⟨by rfl, ?_⟩) (by assumption) ?_
                    rotate_left
                    · (intro w hSw; (try dsimp only at hSw); go_simp) <;> with_reducible rfl
                    (try simp only [Act.put, List.setIfInBounds_toArray, List.set_cons_zero, List.set_cons_succ])
                    refine wpAnyH_take (i := 4) (oi := ({ dst := some 129, op := Op.move (Operand.tmp 128), type := 4, pos := "law.go:85", after := #[{ on := 3, ground := Ground.data }, { on := 1, ground := Ground.chain }], guard := none } : Oper)) (v := ?_) rfl (by kernel_rfl) (by kernel_rfl) (by kernel_rfl) (fun _ _ _ h => h) (Or.inl ⟨by rfl, ?_⟩) (by assumption) ?_
                    rotate_left
                    · (intro w hSw; (try dsimp only at hSw); go_simp) <;> with_reducible rfl
                    (try simp only [Act.put, List.setIfInBounds_toArray, List.set_cons_zero, List.set_cons_succ])
                    refine wpAnyH_take (i := 5) (oi := ({ dst := some 130, op := Op.move (Operand.tmp 13), type := 38, pos := "law.go:85", after := #[{ on := 4, ground := Ground.guard }], guard := some (4, false) } : Oper)) (v := ?_) rfl (by kernel_rfl) (by kernel_rfl) (by kernel_rfl) (fun _ _ _ h => h) (Or.inl ⟨by rfl, ?_⟩) (by assumption) ?_
                    rotate_left
                    · (intro w hSw; (try dsimp only at hSw); go_simp) <;> with_reducible rfl
                    (try simp only [Act.put, List.setIfInBounds_toArray, List.set_cons_zero, List.set_cons_succ])
                    refine wpAnyH_take (i := 6) (oi := ({ dst := some 131, op := Op.move (Operand.tmp 14), type := 38, pos := "law.go:85", after := #[{ on := 4, ground := Ground.guard }], guard := some (4, false) } : Oper)) (v := ?_) rfl (by kernel_rfl) (by kernel_rfl) (by kernel_rfl) (fun _ _ _ h => h) (Or.inl ⟨by rfl, ?_⟩) (by assumption) ?_
                    rotate_left
                    · (intro w hSw; (try dsimp only at hSw); go_simp) <;> with_reducible rfl
                    (try simp only [Act.put, List.setIfInBounds_toArray, List.set_cons_zero, List.set_cons_succ])
                    refine wpAnyH_take (i := 7) (oi := ({ dst := some 132, op := Op.binOp BinOp.neq 38 (Operand.tmp 130) (Operand.tmp 131) 38, type := 4, pos := "law.go:85", after := #[{ on := 5, ground := Ground.data }, { on := 6, ground := Ground.data }, { on := 4, ground := Ground.guard }], guard := some (4, false) } : Oper)) (v := ?_) rfl (by kernel_rfl) (by kernel_rfl) (by kernel_rfl) (fun _ _ _ h => h) (Or.inl ⟨by rfl, ?_⟩) (by assumption) ?_
                    rotate_left
                    · (intro w hSw; (try dsimp only at hSw); go_simp) <;> with_reducible rfl
                    (try simp only [Act.put, List.setIfInBounds_toArray, List.set_cons_zero, List.set_cons_succ])
                    refine wpAnyH_take (i := 8) (oi := ({ dst := some 133, op := Op.pick (Operand.tmp 129) (Operand.const (Value.bool true)) (Operand.tmp 132), type := 4, pos := "law.go:85", after := #[{ on := 4, ground := Ground.data }, { on := 7, ground := Ground.data }], guard := none } : Oper)) (v := ?_) rfl (by kernel_rfl) (by kernel_rfl) (by kernel_rfl) (fun _ _ _ h => h) (Or.inl ⟨by rfl, ?_⟩) (by assumption) ?_
                    rotate_left
                    · (intro w hSw; (try dsimp only at hSw); go_simp) <;> with_reducible rfl
                    (try simp only [Act.put, List.setIfInBounds_toArray, List.set_cons_zero, List.set_cons_succ])
                    refine wpAnyH_take (i := 9) (oi := ({ dst := some 134, op := Op.move (Operand.tmp 133), type := 4, pos := "law.go:85", after := #[{ on := 8, ground := Ground.data }, { on := 4, ground := Ground.chain }], guard := none } : Oper)) (v := ?_) rfl (by kernel_rfl) (by kernel_rfl) (by kernel_rfl) (fun _ _ _ h => h) (Or.inl ⟨by rfl, ?_⟩) (by assumption) ?_
                    rotate_left
                    · (intro w hSw; (try dsimp only at hSw); go_simp) <;> with_reducible rfl
                    (try simp only [Act.put, List.setIfInBounds_toArray, List.set_cons_zero, List.set_cons_succ])
                    refine wpAnyH_take (i := 10) (oi := ({ dst := some 135, op := Op.move (Operand.tmp 7), type := 25, pos := "law.go:85", after := #[{ on := 9, ground := Ground.guard }], guard := some (9, false) } : Oper)) (v := ?_) rfl (by kernel_rfl) (by kernel_rfl) (by kernel_rfl) (fun _ _ _ h => h) (Or.inl ⟨by rfl, ?_⟩) (by assumption) ?_
                    rotate_left
                    · (intro w hSw; (try dsimp only at hSw); go_simp) <;> with_reducible rfl
                    (try simp only [Act.put, List.setIfInBounds_toArray, List.set_cons_zero, List.set_cons_succ])
                    refine wpAnyH_take (i := 12) (oi := ({ dst := some 137, op := Op.fieldAddr 29 (Operand.tmp 8) 2, type := 0, pos := "law.go:85", after := #[{ on := 9, ground := Ground.guard }], guard := some (9, false) } : Oper)) (v := ?_) rfl (by kernel_rfl) (by kernel_rfl) (by kernel_rfl) (fun _ _ _ h => h) (Or.inl ⟨by rfl, ?_⟩) (by assumption) ?_
                    rotate_left
                    · (intro w hSw; (try dsimp only at hSw); go_simp) <;> with_reducible rfl
                    (try simp only [Act.put, List.setIfInBounds_toArray, List.set_cons_zero, List.set_cons_succ])
                    refine wpAnyH_take (i := 13) (oi := ({ dst := some 138, op := Op.load 3 (Operand.tmp 137), type := 3, pos := "law.go:85", after := #[{ on := 12, ground := Ground.data }, { on := 9, ground := Ground.guard }], guard := some (9, false) } : Oper)) (v := ?_) rfl (by kernel_rfl) (by kernel_rfl) (by kernel_rfl) (fun _ _ _ h => h) (Or.inl ⟨by rfl, ?_⟩) (by assumption) ?_
                    rotate_left
                    · (intro w hSw; (try dsimp only at hSw); go_simp) <;> with_reducible rfl
                    (try simp only [Act.put, List.setIfInBounds_toArray, List.set_cons_zero, List.set_cons_succ])
                    refine wpAnyH_ready (rs := [11]) (by kernel_rfl) (by simp) ?_
                    refine AllReadyH.cons (o := ({ dst := some 136, op := Op.call { callee := Callee.value (Operand.func 23), args := #[Operand.tmp 135], argTypes := #[25] }, type := 3, pos := "law.go:85", after := #[{ on := 10, ground := Ground.data }, { on := 9, ground := Ground.chain }, { on := 9, ground := Ground.guard }], guard := some (9, false) } : Oper)) rfl (fun K hK => ?_) ?_
                    · go_simp
                      refine (ticks_at (RD5.out.1.below B5.out).at').mono ?_
                      rintro e w' ⟨rfl, rfl⟩
                      go_wp2_with fail
                      refine hK.out _ _ ?_ (fun hHeld => ?_)
                      · exact HSS.out _ B5.out
                      clear hK K
                      (try simp only [Act.put, List.setIfInBounds_toArray, List.set_cons_zero, List.set_cons_succ])
                      refine wpAnyH_take (i := 14) (oi := ({ dst := some 139, op := Op.binOp BinOp.neq 3 (Operand.tmp 136) (Operand.tmp 138) 3, type := 4, pos := "law.go:85", after := #[{ on := 11, ground := Ground.data }, { on := 13, ground := Ground.data }, { on := 9, ground := Ground.guard }], guard := some (9, false) } : Oper)) (v := ?_) rfl (by kernel_rfl) (by kernel_rfl) (by kernel_rfl) (fun _ _ _ h => h) (Or.inl ⟨by rfl, ?_⟩) (by assumption) ?_
                      rotate_left
                      · (intro w hSw; (try dsimp only at hSw); go_simp) <;> with_reducible rfl
                      (try simp only [Act.put, List.setIfInBounds_toArray, List.set_cons_zero, List.set_cons_succ])
                      refine wpAnyH_take (i := 15) (oi := ({ dst := some 140, op := Op.pick (Operand.tmp 134) (Operand.const (Value.bool true)) (Operand.tmp 139), type := 4, pos := "law.go:85", after := #[{ on := 9, ground := Ground.data }, { on := 14, ground := Ground.data }], guard := none } : Oper)) (v := ?_) rfl (by kernel_rfl) (by kernel_rfl) (by kernel_rfl) (fun _ _ _ h => h) (Or.inl ⟨by rfl, ?_⟩) (by assumption) ?_
                      rotate_left
                      · (intro w hSw; (try dsimp only at hSw); go_simp) <;> with_reducible rfl
                      (try simp only [Act.put, List.setIfInBounds_toArray, List.set_cons_zero, List.set_cons_succ])
                      refine wpAnyH_done (by kernel_rfl) ?_ _
                      refine NoPanic.normal ?_
                      go_wp2_with fail
                      go_roundw
                      case rel => exact ⟨k + 1, by omega, by go_num, T2, _, _, _, _, (RD5.out.1.below B5.out).at', (RD5.out.1.below B5.out).rf, by have := RD5.out.2.1; have := R0.out.1; omega, by have := RD5.out.2.2; have := R0.out.2.1; omega, RD5.out.1.lo⟩
                      case measure => simp [intOf]; omega
                    exact AllReadyH.nil
                  exact AllReadyH.nil
                  
                exact AllReadyH.nil
              exact AllReadyH.nil
            exact AllReadyH.nil
          exact AllReadyH.nil
        · have i0 : ¬ ((xd : Int) = 0) := by omega
          have i0' : ((xd : Int) == 0) = false := by simp; omega
          by_cases d1 : xd = 1
          · subst d1
            obtain ⟨xd', hxd'⟩ : ∃ z : Nat, z = 1 := ⟨_, rfl⟩
            rw [← hxd'] at R1
            clear hxd'
            have hdoc := docRead v1 P A ln c T hP2 l R1.out.2 (R1.out.1.rf.log) R1.out.1.rf.ok (by omega) (fun h => R1.out.1.rf.emp (by have := R1.out.2; omega)) (by omega) xx
            have hpro := fun (v3 : World) (at3 : At w v3 s P T (M.byteAt l) O) => at_read at3 xx (by omega)
            have htk : rT P xx ≤ 2097156 := by have := rT_le P xx; omega
            obtain ⟨hp', hk', ho', hn', hvv⟩ := rV_hv P (M.byteAt l) xx
            obtain ⟨hp, ehp⟩ : ∃ z : Int, z = hp' := ⟨_, rfl⟩
            obtain ⟨hk, ehk⟩ : ∃ z : Int, z = hk' := ⟨_, rfl⟩
            obtain ⟨ho, eho⟩ : ∃ z : Int, z = ho' := ⟨_, rfl⟩
            obtain ⟨hn, ehn⟩ : ∃ z : Int, z = hn' := ⟨_, rfl⟩
            rw [← ehp, ← ehk, ← eho, ← ehn] at hvv
            generalize hgv : rV P (M.byteAt l) xx = vv at *
            subst hvv
            generalize hge : rE P (M.byteAt l) xx = er at *
            generalize hgt : rT P xx = tk at *
            have HD := Lib.hid hdoc
            have HPR := Lib.hid hpro
            clear hdoc hpro hge hgt hgv ehp ehk eho ehn
            have r0 := R1.out.1.rf.c0
            have r1 := R1.out.1.rf.c1
            have r2 := R1.out.1.rf.c2
            rw [← R1.out.2] at r1
            have a1' := R1.out.1.ac.c1
            simp only at a1'
            go_wp2_with fail
            refine HD.out.mono ?_
            rintro e y2 ⟨rfl, q2⟩
            obtain ⟨T2, hT2⟩ : ∃ T2, T2 = T + tk := ⟨_, rfl⟩
            rw [← hT2]
            obtain ⟨l', hl'⟩ : ∃ l', l' = l := ⟨_, rfl⟩
            obtain ⟨A', hA'⟩ : ∃ A', A' = A := ⟨_, rfl⟩
            obtain ⟨c', hc'⟩ : ∃ c', c' = c := ⟨_, rfl⟩
            obtain ⟨n', hn'⟩ : ∃ n', n' = ln := ⟨_, rfl⟩
            have hn2 : n' = l'.length := by rw [hn', hl']; exact R1.out.2
            have hlog : LogAt y2 A' l' := by rw [hA', hl']; exact Lies.below R1.out.1.rf.log q2
            have hfr : Fresh v1 y2 A A' c c' l l' := Or.inl ⟨hA', hc', hl'⟩
            have hok2 : ∀ e ∈ l', EntOk e := by rw [hl']; exact R1.out.1.rf.ok
            have HT2 := Lib.hid (show T2 = T + tk from hT2)
            have LEN := Lib.hid (show l'.length ≤ l.length + 1 by rw [hl']; omega)
            have HL := Lib.hid (show M.byteAt l' = M.byteAt l by rw [hl'])
            clear r0 r1 r2
            clear a1'
            have rdd := R1.out.1.doc (T2 := T2) q2 hlog hfr hok2
            rw [← hn2] at rdd
            have rdd := rdd.sety (.int .i64 hp) (.int .i64 hk) (.int .u64 ho) (.int .u64 hn)
            have RDD := Lib.hid rdd
            have s2 := R1.out.1.below q2
            have r0 := s2.rf.c0
            have r1 := s2.rf.c1
            have r2 := s2.rf.c2
            have rz := s2.rf.fz
            rw [← R1.out.2] at r1
            have z0 := s2.by'.c0
            have z1 := s2.by'.c1
            have z2 := s2.by'.c2
            have z3 := s2.by'.c3
            have zf := s2.by'.fz
            have eby : bw < gy := by have := s2.e1; have := s2.e2; have := s2.e3; omega
            clear rdd s2
            rw [← hA', ← hn', ← hc']
            clear hA' hn' hc' hl'
            clear hT2 hn2 hlog hfr q2 hok2
            go_upto_region 25 with fail
            clear r0 r1 r2 rz z0 z1 z2 z3 zf eby
            obtain ⟨v3, hv3⟩ : ∃ v3, v3 = ((((((y2.setCell ⟨bw, 0, none⟩ (.int .i64 (P : Int))).setCell ⟨bw, 1, none⟩ (.slice A' n' c')).setCell ⟨bw, 2, none⟩ (.int .i64 (T2 : Int))).setCell ⟨gy, 0, none⟩ (.int .i64 hp)).setCell ⟨gy, 1, none⟩ (.int .i64 hk)).setCell ⟨gy, 2, none⟩ (.int .u64 ho)).setCell ⟨gy, 3, none⟩ (.int .u64 hn) := ⟨_, rfl⟩
            rw [← hv3]
            have RD3 := Lib.hid (show Rd w v3 s bw P T T2 (M.byteAt l) O l' A' c' ba gx gy ⟨xd', xx, ⟨xp, xk, xo, xn⟩, xa, xA, xl, xc, xb⟩ (.int .i64 0) (.int .i64 0) (.int .u64 0) (.int .u64 0) (.int .i64 hp) (.int .i64 hk) (.int .u64 ho) (.int .u64 hn) from by rw [hv3]; exact RDD.out)
            clear hv3 RDD
            have a1' := RD3.out.ac.c1
            simp only at a1'
            go_wp2_with fail
            refine (HPR.out v3 RD3.out.at').mono ?_
            rintro e v4 ⟨rfl, at4, k4⟩
            have at4 := RD3.out.at'.towid k4 at4
            rw [← HT2.out, ← HL.out] at at4
            have RD4 := Lib.hid (RD3.out.pro at4 k4)
            clear a1'
            clear at4 k4
            have z0 := RD4.out.bx.c0
            have z1 := RD4.out.bx.c1
            have z2 := RD4.out.bx.c2
            have z3 := RD4.out.bx.c3
            have zf := RD4.out.bx.fz
            go_upto_region 32 with fail
            clear z0 z1 z2 z3 zf
            obtain ⟨v5, hv5⟩ : ∃ v5, v5 = (((v4.setCell ⟨gx, 0, none⟩ (.int .i64 hp)).setCell ⟨gx, 1, none⟩ (.int .i64 hk)).setCell ⟨gx, 2, none⟩ (.int .u64 ho)).setCell ⟨gx, 3, none⟩ (.int .u64 hn) := ⟨_, rfl⟩
            rw [← hv5]
            have RD5 := Lib.hid (show Rd w v5 s bw P T2 T2 (M.byteAt l') (Wid O v3 v4) l' A' c' ba gx gy ⟨xd', xx, ⟨xp, xk, xo, xn⟩, xa, xA, xl, xc, xb⟩ (.int .i64 hp) (.int .i64 hk) (.int .u64 ho) (.int .u64 hn) (.int .i64 hp) (.int .i64 hk) (.int .u64 ho) (.int .u64 hn) ∧ T2 ≤ T + 4194304 ∧ l'.length ≤ l.length + 1 from ⟨by rw [hv5]; exact RD4.out.setx (.int .i64 hp) (.int .i64 hk) (.int .u64 ho) (.int .u64 hn), by have := HT2.out; omega, LEN.out⟩)
            clear hv5 RD4 RD3
            have HSS := Lib.hid (show ∀ W, Below v5.heap.size v5 W → (W.cell? ⟨gx, 0, none⟩ = some (.int .i64 hp) ∧ W.cell? ⟨gx, 1, none⟩ = some (.int .i64 hk) ∧ W.cell? ⟨gx, 2, none⟩ = some (.int .u64 ho) ∧ W.cell? ⟨gx, 3, none⟩ = some (.int .u64 hn)) ∧ (W.cell? ⟨gy, 0, none⟩ = some (.int .i64 hp) ∧ W.cell? ⟨gy, 1, none⟩ = some (.int .i64 hk) ∧ W.cell? ⟨gy, 2, none⟩ = some (.int .u64 ho) ∧ W.cell? ⟨gy, 3, none⟩ = some (.int .u64 hn)) ∧ W.cell? ⟨bw, 2, none⟩ = some (.int .i64 (T2 : Int)) from fun W hW => ⟨⟨(RD5.out.1.below hW).bx.c0, (RD5.out.1.below hW).bx.c1, (RD5.out.1.below hW).bx.c2, (RD5.out.1.below hW).bx.c3⟩, ⟨(RD5.out.1.below hW).by'.c0, (RD5.out.1.below hW).by'.c1, (RD5.out.1.below hW).by'.c2, (RD5.out.1.below hW).by'.c3⟩, (RD5.out.1.below hW).rf.c2⟩)
            have B0 := Lib.hid ((Below.refl v5.heap.size v5).drew)
            go_wp2_with fail
            refine wp_region_noPanic ?_
            refine wp_region_held_drew (S := fun W => (W.cell? ⟨gx, 0, none⟩ = some (.int .i64 hp) ∧ W.cell? ⟨gx, 1, none⟩ = some (.int .i64 hk) ∧ W.cell? ⟨gx, 2, none⟩ = some (.int .u64 ho) ∧ W.cell? ⟨gx, 3, none⟩ = some (.int .u64 hn)) ∧ (W.cell? ⟨gy, 0, none⟩ = some (.int .i64 hp) ∧ W.cell? ⟨gy, 1, none⟩ = some (.int .i64 hk) ∧ W.cell? ⟨gy, 2, none⟩ = some (.int .u64 ho) ∧ W.cell? ⟨gy, 3, none⟩ = some (.int .u64 hn)) ∧ W.cell? ⟨bw, 2, none⟩ = some (.int .i64 (T2 : Int))) (by kernel_rfl) (HSS.out _ B0.out) (fun hHeld => ?_)
            refine wpAnyH_take (i := 0) (oi := ({ dst := some 125, op := Op.load 33 (Operand.tmp 11), type := 33, pos := "law.go:85", after := #[], guard := none } : Oper)) (v := ?_) rfl (by kernel_rfl) (by kernel_rfl) (by kernel_rfl) (fun _ _ _ h => h) (Or.inl ⟨by rfl, ?_⟩) (by assumption) ?_
            rotate_left
            · (intro w hSw; (try dsimp only at hSw); go_simp) <;> with_reducible rfl
            (try simp only [Act.put, List.setIfInBounds_toArray, List.set_cons_zero, List.set_cons_succ])
            refine wpAnyH_take (i := 2) (oi := ({ dst := some 127, op := Op.load 37 (Operand.tmp 12), type := 37, pos := "law.go:85", after := #[], guard := none } : Oper)) (v := ?_) rfl (by kernel_rfl) (by kernel_rfl) (by kernel_rfl) (fun _ _ _ h => h) (Or.inl ⟨by rfl, ?_⟩) (by assumption) ?_
            rotate_left
            · (intro w hSw; (try dsimp only at hSw); go_simp) <;> with_reducible rfl
            (try simp only [Act.put, List.setIfInBounds_toArray, List.set_cons_zero, List.set_cons_succ])
            refine wpAnyH_ready (rs := [1]) (by kernel_rfl) (by simp) ?_
            refine AllReadyH.cons (o := ({ dst := some 126, op := Op.call { callee := Callee.value (Operand.func 13), args := #[Operand.tmp 125], argTypes := #[33] }, type := 37, pos := "law.go:85", after := #[{ on := 0, ground := Ground.data }], guard := none } : Oper)) rfl (fun K hK => ?_) ?_
            · go_simp
              refine (model_any hp hk ho hn _).mono ?_
              rintro e y5 ⟨rfl, q5⟩
              have B5 := Lib.hid (below_call B0.out q5)
              clear q5
              go_wp2_with fail
              refine hK.out _ _ ?_ (fun hHeld => ?_)
              · exact HSS.out _ B5.out
              clear hK K
              (try simp only [Act.put, List.setIfInBounds_toArray, List.set_cons_zero, List.set_cons_succ])
              refine wpAnyH_take (i := 3) (oi := ({ dst := some 128, op := Op.binOp BinOp.neq 37 (Operand.tmp 126) (Operand.tmp 127) 37, type := 4, pos := "law.go:85", after := #[{ on := 1, ground := Ground.data }, { on := 2, ground := Ground.data }], guard := none } : Oper)) (v := ?_) rfl (by kernel_rfl) (by kernel_rfl) (by kernel_rfl) (fun _ _ _ h => h) (Or.inl ⟨by rfl, ?_⟩) (by assumption) ?_
              rotate_left
              · (intro w hSw; (try dsimp only at hSw); go_simp) <;> with_reducible rfl
              (try simp only [Act.put, List.setIfInBounds_toArray, List.set_cons_zero, List.set_cons_succ])
              refine wpAnyH_take (i := 4) (oi := ({ dst := some 129, op := Op.move (Operand.tmp 128), type := 4, pos := "law.go:85", after := #[{ on := 3, ground := Ground.data }, { on := 1, ground := Ground.chain }], guard := none } : Oper)) (v := ?_) rfl (by kernel_rfl) (by kernel_rfl) (by kernel_rfl) (fun _ _ _ h => h) (Or.inl ⟨by rfl, ?_⟩) (by assumption) ?_
              rotate_left
              · (intro w hSw; (try dsimp only at hSw); go_simp) <;> with_reducible rfl
              (try simp only [Act.put, List.setIfInBounds_toArray, List.set_cons_zero, List.set_cons_succ])
              refine wpAnyH_take (i := 5) (oi := ({ dst := some 130, op := Op.move (Operand.tmp 13), type := 38, pos := "law.go:85", after := #[{ on := 4, ground := Ground.guard }], guard := some (4, false) } : Oper)) (v := ?_) rfl (by kernel_rfl) (by kernel_rfl) (by kernel_rfl) (fun _ _ _ h => h) (Or.inl ⟨by rfl, ?_⟩) (by assumption) ?_
              rotate_left
              · (intro w hSw; (try dsimp only at hSw); go_simp) <;> with_reducible rfl
              (try simp only [Act.put, List.setIfInBounds_toArray, List.set_cons_zero, List.set_cons_succ])
              refine wpAnyH_take (i := 6) (oi := ({ dst := some 131, op := Op.move (Operand.tmp 14), type := 38, pos := "law.go:85", after := #[{ on := 4, ground := Ground.guard }], guard := some (4, false) } : Oper)) (v := ?_) rfl (by kernel_rfl) (by kernel_rfl) (by kernel_rfl) (fun _ _ _ h => h) (Or.inl ⟨by rfl, ?_⟩) (by assumption) ?_
              rotate_left
              · (intro w hSw; (try dsimp only at hSw); go_simp) <;> with_reducible rfl
              (try simp only [Act.put, List.setIfInBounds_toArray, List.set_cons_zero, List.set_cons_succ])
              refine wpAnyH_take (i := 7) (oi := ({ dst := some 132, op := Op.binOp BinOp.neq 38 (Operand.tmp 130) (Operand.tmp 131) 38, type := 4, pos := "law.go:85", after := #[{ on := 5, ground := Ground.data }, { on := 6, ground := Ground.data }, { on := 4, ground := Ground.guard }], guard := some (4, false) } : Oper)) (v := ?_) rfl (by kernel_rfl) (by kernel_rfl) (by kernel_rfl) (fun _ _ _ h => h) (Or.inl ⟨by rfl, ?_⟩) (by assumption) ?_
              rotate_left
              · (intro w hSw; (try dsimp only at hSw); go_simp) <;> with_reducible rfl
              (try simp only [Act.put, List.setIfInBounds_toArray, List.set_cons_zero, List.set_cons_succ])
              refine wpAnyH_take (i := 8) (oi := ({ dst := some 133, op := Op.pick (Operand.tmp 129) (Operand.const (Value.bool true)) (Operand.tmp 132), type := 4, pos := "law.go:85", after := #[{ on := 4, ground := Ground.data }, { on := 7, ground := Ground.data }], guard := none } : Oper)) (v := ?_) rfl (by kernel_rfl) (by kernel_rfl) (by kernel_rfl) (fun _ _ _ h => h) (Or.inl ⟨by rfl, ?_⟩) (by assumption) ?_
              rotate_left
              · (intro w hSw; (try dsimp only at hSw); go_simp) <;> with_reducible rfl
              (try simp only [Act.put, List.setIfInBounds_toArray, List.set_cons_zero, List.set_cons_succ])
              refine wpAnyH_take (i := 9) (oi := ({ dst := some 134, op := Op.move (Operand.tmp 133), type := 4, pos := "law.go:85", after := #[{ on := 8, ground := Ground.data }, { on := 4, ground := Ground.chain }], guard := none } : Oper)) (v := ?_) rfl (by kernel_rfl) (by kernel_rfl) (by kernel_rfl) (fun _ _ _ h => h) (Or.inl ⟨by rfl, ?_⟩) (by assumption) ?_
              rotate_left
              · (intro w hSw; (try dsimp only at hSw); go_simp) <;> with_reducible rfl
              (try simp only [Act.put, List.setIfInBounds_toArray, List.set_cons_zero, List.set_cons_succ])
              refine wpAnyH_take (i := 10) (oi := ({ dst := some 135, op := Op.move (Operand.tmp 7), type := 25, pos := "law.go:85", after := #[{ on := 9, ground := Ground.guard }], guard := some (9, false) } : Oper)) (v := ?_) rfl (by kernel_rfl) (by kernel_rfl) (by kernel_rfl) (fun _ _ _ h => h) (Or.inl ⟨by rfl, ?_⟩) (by assumption) ?_
              rotate_left
              · (intro w hSw; (try dsimp only at hSw); go_simp) <;> with_reducible rfl
              (try simp only [Act.put, List.setIfInBounds_toArray, List.set_cons_zero, List.set_cons_succ])
              refine wpAnyH_take (i := 12) (oi := ({ dst := some 137, op := Op.fieldAddr 29 (Operand.tmp 8) 2, type := 0, pos := "law.go:85", after := #[{ on := 9, ground := Ground.guard }], guard := some (9, false) } : Oper)) (v := ?_) rfl (by kernel_rfl) (by kernel_rfl) (by kernel_rfl) (fun _ _ _ h => h) (Or.inl ⟨by rfl, ?_⟩) (by assumption) ?_
              rotate_left
              · (intro w hSw; (try dsimp only at hSw); go_simp) <;> with_reducible rfl
              (try simp only [Act.put, List.setIfInBounds_toArray, List.set_cons_zero, List.set_cons_succ])
              refine wpAnyH_take (i := 13) (oi := ({ dst := some 138, op := Op.load 3 (Operand.tmp 137), type := 3, pos := "law.go:85", after := #[{ on := 12, ground := Ground.data }, { on := 9, ground := Ground.guard }], guard := some (9, false) } : Oper)) (v := ?_) rfl (by kernel_rfl) (by kernel_rfl) (by kernel_rfl) (fun _ _ _ h => h) (Or.inl ⟨by rfl, ?_⟩) (by assumption) ?_
              rotate_left
              · (intro w hSw; (try dsimp only at hSw); go_simp) <;> with_reducible rfl
              (try simp only [Act.put, List.setIfInBounds_toArray, List.set_cons_zero, List.set_cons_succ])
              refine wpAnyH_ready (rs := [11]) (by kernel_rfl) (by simp) ?_
              refine AllReadyH.cons (o := ({ dst := some 136, op := Op.call { callee := Callee.value (Operand.func 23), args := #[Operand.tmp 135], argTypes := #[25] }, type := 3, pos := "law.go:85", after := #[{ on := 10, ground := Ground.data }, { on := 9, ground := Ground.chain }, { on := 9, ground := Ground.guard }], guard := some (9, false) } : Oper)) rfl (fun K hK => ?_) ?_
              · go_simp
                refine (ticks_at (RD5.out.1.below B5.out).at').mono ?_
                rintro e w' ⟨rfl, rfl⟩
                go_wp2_with fail
                refine hK.out _ _ ?_ (fun hHeld => ?_)
                · exact HSS.out _ B5.out
                clear hK K
                (try simp only [Act.put, List.setIfInBounds_toArray, List.set_cons_zero, List.set_cons_succ])
                refine wpAnyH_take (i := 14) (oi := ({ dst := some 139, op := Op.binOp BinOp.neq 3 (Operand.tmp 136) (Operand.tmp 138) 3, type := 4, pos := "law.go:85", after := #[{ on := 11, ground := Ground.data }, { on := 13, ground := Ground.data }, { on := 9, ground := Ground.guard }], guard := some (9, false) } : Oper)) (v := ?_) rfl (by kernel_rfl) (by kernel_rfl) (by kernel_rfl) (fun _ _ _ h => h) (Or.inl ⟨by rfl, ?_⟩) (by assumption) ?_
                rotate_left
                · (intro w hSw; (try dsimp only at hSw); go_simp) <;> with_reducible rfl
                (try simp only [Act.put, List.setIfInBounds_toArray, List.set_cons_zero, List.set_cons_succ])
                refine wpAnyH_take (i := 15) (oi := ({ dst := some 140, op := Op.pick (Operand.tmp 134) (Operand.const (Value.bool true)) (Operand.tmp 139), type := 4, pos := "law.go:85", after := #[{ on := 9, ground := Ground.data }, { on := 14, ground := Ground.data }], guard := none } : Oper)) (v := ?_) rfl (by kernel_rfl) (by kernel_rfl) (by kernel_rfl) (fun _ _ _ h => h) (Or.inl ⟨by rfl, ?_⟩) (by assumption) ?_
                rotate_left
                · (intro w hSw; (try dsimp only at hSw); go_simp) <;> with_reducible rfl
                (try simp only [Act.put, List.setIfInBounds_toArray, List.set_cons_zero, List.set_cons_succ])
                refine wpAnyH_done (by kernel_rfl) ?_ _
                refine NoPanic.normal ?_
                go_wp2_with fail
                go_roundw
                case rel => exact ⟨k + 1, by omega, by go_num, T2, _, _, _, _, (RD5.out.1.below B5.out).at', (RD5.out.1.below B5.out).rf, by have := RD5.out.2.1; have := R0.out.1; omega, by have := RD5.out.2.2; have := R0.out.2.1; omega, RD5.out.1.lo⟩
                case measure => simp [intOf]; omega
              exact AllReadyH.nil
            exact AllReadyH.nil
          · have i1 : ¬ ((xd : Int) = 1) := by omega
            have i1' : ((xd : Int) == 1) = false := by simp; omega
            by_cases d2 : xd = 2
            · subst d2
              obtain ⟨xd', hxd'⟩ : ∃ z : Nat, z = 2 := ⟨_, rfl⟩
              rw [← hxd'] at R1
              clear hxd'
              have hdoc := fun (W : World) (hW : Below v1.heap.size v1 W) => docLink W P A ln c T hP2 l R1.out.2 (Lies.below R1.out.1.rf.log hW) R1.out.1.rf.ok (by omega) (fun h => R1.out.1.rf.emp (by have := R1.out.2; omega)) (by omega) xx xn HX.out.1.n
              have hpro := fun (v3 : World) (at3 : At w v3 s P T (M.byteAt l) O) => at_link at3 xx xn HX.out.1.n (by omega)
              have htk : kT P (M.byteAt l) xx ≤ 2097156 := by have := kT_le P (M.byteAt l) xx; omega
              generalize hge : rE P (M.byteAt l) xx = er at *
              generalize hgt : kT P (M.byteAt l) xx = tk at *
              generalize hgf : kF P (M.byteAt l) xx xn = ff at *
              have HD := Lib.hid hdoc
              have HPR := Lib.hid hpro
              clear hdoc hpro hge hgt hgf
              have r0 := R1.out.1.rf.c0
              have r1 := R1.out.1.rf.c1
              have r2 := R1.out.1.rf.c2
              rw [← R1.out.2] at r1
              have a1' := R1.out.1.ac.c1
              have a5' := R1.out.1.ac.c5
              simp only at a1' a5'
              go_wp2_with fail
              refine (HD.out v1 (Below.refl _ _)).mono ?_
              rintro e y2 ⟨l', A', c', n', T2, hT2, rfl, hn2, hlog, hfr, q2, hfb, hlen2, hok2⟩
              have HT2 := Lib.hid (And.intro hT2 hfb)
              have LEN := Lib.hid hlen2
              clear r0 r1 r2
              clear a1' a5'
              have rdd := R1.out.1.doc (T2 := T2) q2 hlog hfr hok2
              rw [← hn2] at rdd
              have RDD := Lib.hid rdd
              have s2 := R1.out.1.below q2
              have r0 := s2.rf.c0
              have r1 := s2.rf.c1
              have r2 := s2.rf.c2
              have rz := s2.rf.fz
              rw [← R1.out.2] at r1
              clear rdd s2
              clear hT2 hn2 hlog hfr q2 hfb hlen2 hok2
              go_upto_region 28 with fail
              clear r0 r1 r2 rz
              obtain ⟨v3, hv3⟩ : ∃ v3, v3 = ((y2.setCell ⟨bw, 0, none⟩ (.int .i64 (P : Int))).setCell ⟨bw, 1, none⟩ (.slice A' n' c')).setCell ⟨bw, 2, none⟩ (.int .i64 (T2 : Int)) := ⟨_, rfl⟩
              rw [← hv3]
              have RD3 := Lib.hid (show Rd w v3 s bw P T T2 (M.byteAt l) O l' A' c' ba gx gy ⟨xd', xx, ⟨xp, xk, xo, xn⟩, xa, xA, xl, xc, xb⟩ (.int .i64 0) (.int .i64 0) (.int .u64 0) (.int .u64 0) (.int .i64 0) (.int .i64 0) (.int .u64 0) (.int .u64 0) from by rw [hv3]; exact RDD.out)
              clear hv3 RDD
              have a1' := RD3.out.ac.c1
              have a5' := RD3.out.ac.c5
              simp only at a1' a5'
              go_wp2_with fail
              refine (HPR.out v3 RD3.out.at').mono ?_
              rintro e v4 ⟨rfl, at4, k4⟩
              rw [← HT2.out.1] at at4
              rw [← HT2.out.2] at at4
              have RD4 := Lib.hid (RD3.out.pro at4 k4)
              clear a1' a5'
              clear at4 k4
              obtain ⟨v5, hv5⟩ : ∃ v5, v5 = v4 := ⟨_, rfl⟩
              have RD5 := Lib.hid (show Rd w v5 s bw P T2 T2 (M.byteAt l') (Wid O v3 v4) l' A' c' ba gx gy ⟨xd', xx, ⟨xp, xk, xo, xn⟩, xa, xA, xl, xc, xb⟩ (.int .i64 0) (.int .i64 0) (.int .u64 0) (.int .u64 0) (.int .i64 0) (.int .i64 0) (.int .u64 0) (.int .u64 0) ∧ T2 ≤ T + 4194304 ∧ l'.length ≤ l.length + 1 from ⟨by rw [hv5]; exact RD4.out, by have := HT2.out.1; omega, LEN.out⟩)
              rw [← hv5]
              clear hv5 RD4 RD3
              have HSS := Lib.hid (show ∀ W, Below v5.heap.size v5 W → (W.cell? ⟨gx, 0, none⟩ = some (.int .i64 0) ∧ W.cell? ⟨gx, 1, none⟩ = some (.int .i64 0) ∧ W.cell? ⟨gx, 2, none⟩ = some (.int .u64 0) ∧ W.cell? ⟨gx, 3, none⟩ = some (.int .u64 0)) ∧ (W.cell? ⟨gy, 0, none⟩ = some (.int .i64 0) ∧ W.cell? ⟨gy, 1, none⟩ = some (.int .i64 0) ∧ W.cell? ⟨gy, 2, none⟩ = some (.int .u64 0) ∧ W.cell? ⟨gy, 3, none⟩ = some (.int .u64 0)) ∧ W.cell? ⟨bw, 2, none⟩ = some (.int .i64 (T2 : Int)) from fun W hW => ⟨⟨(RD5.out.1.below hW).bx.c0, (RD5.out.1.below hW).bx.c1, (RD5.out.1.below hW).bx.c2, (RD5.out.1.below hW).bx.c3⟩, ⟨(RD5.out.1.below hW).by'.c0, (RD5.out.1.below hW).by'.c1, (RD5.out.1.below hW).by'.c2, (RD5.out.1.below hW).by'.c3⟩, (RD5.out.1.below hW).rf.c2⟩)
              have B0 := Lib.hid ((Below.refl v5.heap.size v5).drew)
              go_wp2_with fail
              refine wp_region_noPanic ?_
              refine wp_region_held_drew (S := fun W => (W.cell? ⟨gx, 0, none⟩ = some (.int .i64 0) ∧ W.cell? ⟨gx, 1, none⟩ = some (.int .i64 0) ∧ W.cell? ⟨gx, 2, none⟩ = some (.int .u64 0) ∧ W.cell? ⟨gx, 3, none⟩ = some (.int .u64 0)) ∧ (W.cell? ⟨gy, 0, none⟩ = some (.int .i64 0) ∧ W.cell? ⟨gy, 1, none⟩ = some (.int .i64 0) ∧ W.cell? ⟨gy, 2, none⟩ = some (.int .u64 0) ∧ W.cell? ⟨gy, 3, none⟩ = some (.int .u64 0)) ∧ W.cell? ⟨bw, 2, none⟩ = some (.int .i64 (T2 : Int))) (by kernel_rfl) (HSS.out _ B0.out) (fun hHeld => ?_)
              refine wpAnyH_take (i := 0) (oi := ({ dst := some 125, op := Op.load 33 (Operand.tmp 11), type := 33, pos := "law.go:85", after := #[], guard := none } : Oper)) (v := ?_) rfl (by kernel_rfl) (by kernel_rfl) (by kernel_rfl) (fun _ _ _ h => h) (Or.inl ⟨by rfl, ?_⟩) (by assumption) ?_
              rotate_left
              · (intro w hSw; (try dsimp only at hSw); go_simp) <;> with_reducible rfl
              (try simp only [Act.put, List.setIfInBounds_toArray, List.set_cons_zero, List.set_cons_succ])
              refine wpAnyH_take (i := 2) (oi := ({ dst := some 127, op := Op.load 37 (Operand.tmp 12), type := 37, pos := "law.go:85", after := #[], guard := none } : Oper)) (v := ?_) rfl (by kernel_rfl) (by kernel_rfl) (by kernel_rfl) (fun _ _ _ h => h) (Or.inl ⟨by rfl, ?_⟩) (by assumption) ?_
              rotate_left
              · (intro w hSw; (try dsimp only at hSw); go_simp) <;> with_reducible rfl
              (try simp only [Act.put, List.setIfInBounds_toArray, List.set_cons_zero, List.set_cons_succ])
              refine wpAnyH_ready (rs := [1]) (by kernel_rfl) (by simp) ?_
              refine AllReadyH.cons (o := ({ dst := some 126, op := Op.call { callee := Callee.value (Operand.func 13), args := #[Operand.tmp 125], argTypes := #[33] }, type := 37, pos := "law.go:85", after := #[{ on := 0, ground := Ground.data }], guard := none } : Oper)) rfl (fun K hK => ?_) ?_
              · go_simp
                refine (model_any 0 0 0 0 _).mono ?_
                rintro e y5 ⟨rfl, q5⟩
                have B5 := Lib.hid (below_call B0.out q5)
                clear q5
                go_wp2_with fail
                refine hK.out _ _ ?_ (fun hHeld => ?_)
                · exact HSS.out _ B5.out
                clear hK K
                (try simp only [Act.put, List.setIfInBounds_toArray, List.set_cons_zero, List.set_cons_succ])
                refine wpAnyH_take (i := 3) (oi := ({ dst := some 128, op := Op.binOp BinOp.neq 37 (Operand.tmp 126) (Operand.tmp 127) 37, type := 4, pos := "law.go:85", after := #[{ on := 1, ground := Ground.data }, { on := 2, ground := Ground.data }], guard := none } : Oper)) (v := ?_) rfl (by kernel_rfl) (by kernel_rfl) (by kernel_rfl) (fun _ _ _ h => h) (Or.inl ⟨by rfl, ?_⟩) (by assumption) ?_
                rotate_left
                · (intro w hSw; (try dsimp only at hSw); go_simp) <;> with_reducible rfl
                (try simp only [Act.put, List.setIfInBounds_toArray, List.set_cons_zero, List.set_cons_succ])
                refine wpAnyH_take (i := 4) (oi := ({ dst := some 129, op := Op.move (Operand.tmp 128), type := 4, pos := "law.go:85", after := #[{ on := 3, ground := Ground.data }, { on := 1, ground := Ground.chain }], guard := none } : Oper)) (v := ?_) rfl (by kernel_rfl) (by kernel_rfl) (by kernel_rfl) (fun _ _ _ h => h) (Or.inl ⟨by rfl, ?_⟩) (by assumption) ?_
                rotate_left
                · (intro w hSw; (try dsimp only at hSw); go_simp) <;> with_reducible rfl
                (try simp only [Act.put, List.setIfInBounds_toArray, List.set_cons_zero, List.set_cons_succ])
                refine wpAnyH_take (i := 5) (oi := ({ dst := some 130, op := Op.move (Operand.tmp 13), type := 38, pos := "law.go:85", after := #[{ on := 4, ground := Ground.guard }], guard := some (4, false) } : Oper)) (v := ?_) rfl (by kernel_rfl) (by kernel_rfl) (by kernel_rfl) (fun _ _ _ h => h) (Or.inl ⟨by rfl, ?_⟩) (by assumption) ?_
                rotate_left
                · (intro w hSw; (try dsimp only at hSw); go_simp) <;> with_reducible rfl
                (try simp only [Act.put, List.setIfInBounds_toArray, List.set_cons_zero, List.set_cons_succ])
                refine wpAnyH_take (i := 6) (oi := ({ dst := some 131, op := Op.move (Operand.tmp 14), type := 38, pos := "law.go:85", after := #[{ on := 4, ground := Ground.guard }], guard := some (4, false) } : Oper)) (v := ?_) rfl (by kernel_rfl) (by kernel_rfl) (by kernel_rfl) (fun _ _ _ h => h) (Or.inl ⟨by rfl, ?_⟩) (by assumption) ?_
                rotate_left
                · (intro w hSw; (try dsimp only at hSw); go_simp) <;> with_reducible rfl
                (try simp only [Act.put, List.setIfInBounds_toArray, List.set_cons_zero, List.set_cons_succ])
                refine wpAnyH_take (i := 7) (oi := ({ dst := some 132, op := Op.binOp BinOp.neq 38 (Operand.tmp 130) (Operand.tmp 131) 38, type := 4, pos := "law.go:85", after := #[{ on := 5, ground := Ground.data }, { on := 6, ground := Ground.data }, { on := 4, ground := Ground.guard }], guard := some (4, false) } : Oper)) (v := ?_) rfl (by kernel_rfl) (by kernel_rfl) (by kernel_rfl) (fun _ _ _ h => h) (Or.inl ⟨by rfl, ?_⟩) (by assumption) ?_
                rotate_left
                · (intro w hSw; (try dsimp only at hSw); go_simp) <;> with_reducible rfl
                (try simp only [Act.put, List.setIfInBounds_toArray, List.set_cons_zero, List.set_cons_succ])
                refine wpAnyH_take (i := 8) (oi := ({ dst := some 133, op := Op.pick (Operand.tmp 129) (Operand.const (Value.bool true)) (Operand.tmp 132), type := 4, pos := "law.go:85", after := #[{ on := 4, ground := Ground.data }, { on := 7, ground := Ground.data }], guard := none } : Oper)) (v := ?_) rfl (by kernel_rfl) (by kernel_rfl) (by kernel_rfl) (fun _ _ _ h => h) (Or.inl ⟨by rfl, ?_⟩) (by assumption) ?_
                rotate_left
                · (intro w hSw; (try dsimp only at hSw); go_simp) <;> with_reducible rfl
                (try simp only [Act.put, List.setIfInBounds_toArray, List.set_cons_zero, List.set_cons_succ])
                refine wpAnyH_take (i := 9) (oi := ({ dst := some 134, op := Op.move (Operand.tmp 133), type := 4, pos := "law.go:85", after := #[{ on := 8, ground := Ground.data }, { on := 4, ground := Ground.chain }], guard := none } : Oper)) (v := ?_) rfl (by kernel_rfl) (by kernel_rfl) (by kernel_rfl) (fun _ _ _ h => h) (Or.inl ⟨by rfl, ?_⟩) (by assumption) ?_
                rotate_left
                · (intro w hSw; (try dsimp only at hSw); go_simp) <;> with_reducible rfl
                (try simp only [Act.put, List.setIfInBounds_toArray, List.set_cons_zero, List.set_cons_succ])
                refine wpAnyH_take (i := 10) (oi := ({ dst := some 135, op := Op.move (Operand.tmp 7), type := 25, pos := "law.go:85", after := #[{ on := 9, ground := Ground.guard }], guard := some (9, false) } : Oper)) (v := ?_) rfl (by kernel_rfl) (by kernel_rfl) (by kernel_rfl) (fun _ _ _ h => h) (Or.inl ⟨by rfl, ?_⟩) (by assumption) ?_
                rotate_left
                · (intro w hSw; (try dsimp only at hSw); go_simp) <;> with_reducible rfl
                (try simp only [Act.put, List.setIfInBounds_toArray, List.set_cons_zero, List.set_cons_succ])
                refine wpAnyH_take (i := 12) (oi := ({ dst := some 137, op := Op.fieldAddr 29 (Operand.tmp 8) 2, type := 0, pos := "law.go:85", after := #[{ on := 9, ground := Ground.guard }], guard := some (9, false) } : Oper)) (v := ?_) rfl (by kernel_rfl) (by kernel_rfl) (by kernel_rfl) (fun _ _ _ h => h) (Or.inl ⟨by rfl, ?_⟩) (by assumption) ?_
                rotate_left
                · (intro w hSw; (try dsimp only at hSw); go_simp) <;> with_reducible rfl
                (try simp only [Act.put, List.setIfInBounds_toArray, List.set_cons_zero, List.set_cons_succ])
                refine wpAnyH_take (i := 13) (oi := ({ dst := some 138, op := Op.load 3 (Operand.tmp 137), type := 3, pos := "law.go:85", after := #[{ on := 12, ground := Ground.data }, { on := 9, ground := Ground.guard }], guard := some (9, false) } : Oper)) (v := ?_) rfl (by kernel_rfl) (by kernel_rfl) (by kernel_rfl) (fun _ _ _ h => h) (Or.inl ⟨by rfl, ?_⟩) (by assumption) ?_
                rotate_left
                · (intro w hSw; (try dsimp only at hSw); go_simp) <;> with_reducible rfl
                (try simp only [Act.put, List.setIfInBounds_toArray, List.set_cons_zero, List.set_cons_succ])
                refine wpAnyH_ready (rs := [11]) (by kernel_rfl) (by simp) ?_
                refine AllReadyH.cons (o := ({ dst := some 136, op := Op.call { callee := Callee.value (Operand.func 23), args := #[Operand.tmp 135], argTypes := #[25] }, type := 3, pos := "law.go:85", after := #[{ on := 10, ground := Ground.data }, { on := 9, ground := Ground.chain }, { on := 9, ground := Ground.guard }], guard := some (9, false) } : Oper)) rfl (fun K hK => ?_) ?_
                · go_simp
                  refine (ticks_at (RD5.out.1.below B5.out).at').mono ?_
                  rintro e w' ⟨rfl, rfl⟩
                  go_wp2_with fail
                  refine hK.out _ _ ?_ (fun hHeld => ?_)
                  · exact HSS.out _ B5.out
                  clear hK K
                  (try simp only [Act.put, List.setIfInBounds_toArray, List.set_cons_zero, List.set_cons_succ])
                  refine wpAnyH_take (i := 14) (oi := ({ dst := some 139, op := Op.binOp BinOp.neq 3 (Operand.tmp 136) (Operand.tmp 138) 3, type := 4, pos := "law.go:85", after := #[{ on := 11, ground := Ground.data }, { on := 13, ground := Ground.data }, { on := 9, ground := Ground.guard }], guard := some (9, false) } : Oper)) (v := ?_) rfl (by kernel_rfl) (by kernel_rfl) (by kernel_rfl) (fun _ _ _ h => h) (Or.inl ⟨by rfl, ?_⟩) (by assumption) ?_
                  rotate_left
                  · (intro w hSw; (try dsimp only at hSw); go_simp) <;> with_reducible rfl
                  (try simp only [Act.put, List.setIfInBounds_toArray, List.set_cons_zero, List.set_cons_succ])
                  refine wpAnyH_take (i := 15) (oi := ({ dst := some 140, op := Op.pick (Operand.tmp 134) (Operand.const (Value.bool true)) (Operand.tmp 139), type := 4, pos := "law.go:85", after := #[{ on := 9, ground := Ground.data }, { on := 14, ground := Ground.data }], guard := none } : Oper)) (v := ?_) rfl (by kernel_rfl) (by kernel_rfl) (by kernel_rfl) (fun _ _ _ h => h) (Or.inl ⟨by rfl, ?_⟩) (by assumption) ?_
                  rotate_left
                  · (intro w hSw; (try dsimp only at hSw); go_simp) <;> with_reducible rfl
                  (try simp only [Act.put, List.setIfInBounds_toArray, List.set_cons_zero, List.set_cons_succ])
                  refine wpAnyH_done (by kernel_rfl) ?_ _
                  refine NoPanic.normal ?_
                  go_wp2_with fail
                  go_roundw
                  case rel => exact ⟨k + 1, by omega, by go_num, T2, _, _, _, _, (RD5.out.1.below B5.out).at', (RD5.out.1.below B5.out).rf, by have := RD5.out.2.1; have := R0.out.1; omega, by have := RD5.out.2.2; have := R0.out.2.1; omega, RD5.out.1.lo⟩
                  case measure => simp [intOf]; omega
                exact AllReadyH.nil
              exact AllReadyH.nil
            · have i2 : ¬ ((xd : Int) = 2) := by omega
              have i2' : ((xd : Int) == 2) = false := by simp; omega
              by_cases d3 : xd = 3
              · subst d3
                obtain ⟨xd', hxd'⟩ : ∃ z : Nat, z = 3 := ⟨_, rfl⟩
                rw [← hxd'] at R1
                clear hxd'
                have hdoc := fun (W : World) (hW : Below v1.heap.size v1 W) => docClear W P A ln c T hP2 l R1.out.2 (Lies.below R1.out.1.rf.log hW) R1.out.1.rf.ok (by omega) (fun h => R1.out.1.rf.emp (by have := R1.out.2; omega)) (by omega) xx
                have hpro := fun (v3 : World) (at3 : At w v3 s P T (M.byteAt l) O) => at_clear at3 xx (by omega)
                have htk : kT P (M.byteAt l) xx ≤ 2097156 := by have := kT_le P (M.byteAt l) xx; omega
                generalize hge : rE P (M.byteAt l) xx = er at *
                generalize hgt : kT P (M.byteAt l) xx = tk at *
                generalize hgf : cF P (M.byteAt l) xx = ff at *
                have HD := Lib.hid hdoc
                have HPR := Lib.hid hpro
                clear hdoc hpro hge hgt hgf
                have r0 := R1.out.1.rf.c0
                have r1 := R1.out.1.rf.c1
                have r2 := R1.out.1.rf.c2
                rw [← R1.out.2] at r1
                have a1' := R1.out.1.ac.c1
                simp only at a1'
                go_wp2_with fail
                refine (HD.out v1 (Below.refl _ _)).mono ?_
                rintro e y2 ⟨l', A', c', n', T2, hT2, rfl, hn2, hlog, hfr, q2, hfb, hlen2, hok2⟩
                have HT2 := Lib.hid (And.intro hT2 hfb)
                have LEN := Lib.hid hlen2
                clear r0 r1 r2
                clear a1'
                have rdd := R1.out.1.doc (T2 := T2) q2 hlog hfr hok2
                rw [← hn2] at rdd
                have RDD := Lib.hid rdd
                have s2 := R1.out.1.below q2
                have r0 := s2.rf.c0
                have r1 := s2.rf.c1
                have r2 := s2.rf.c2
                have rz := s2.rf.fz
                rw [← R1.out.2] at r1
                clear rdd s2
                clear hT2 hn2 hlog hfr q2 hfb hlen2 hok2
                go_upto_region 31 with fail
                clear r0 r1 r2 rz
                obtain ⟨v3, hv3⟩ : ∃ v3, v3 = ((y2.setCell ⟨bw, 0, none⟩ (.int .i64 (P : Int))).setCell ⟨bw, 1, none⟩ (.slice A' n' c')).setCell ⟨bw, 2, none⟩ (.int .i64 (T2 : Int)) := ⟨_, rfl⟩
                rw [← hv3]
                have RD3 := Lib.hid (show Rd w v3 s bw P T T2 (M.byteAt l) O l' A' c' ba gx gy ⟨xd', xx, ⟨xp, xk, xo, xn⟩, xa, xA, xl, xc, xb⟩ (.int .i64 0) (.int .i64 0) (.int .u64 0) (.int .u64 0) (.int .i64 0) (.int .i64 0) (.int .u64 0) (.int .u64 0) from by rw [hv3]; exact RDD.out)
                clear hv3 RDD
                have a1' := RD3.out.ac.c1
                simp only at a1'
                go_wp2_with fail
                refine (HPR.out v3 RD3.out.at').mono ?_
                rintro e v4 ⟨rfl, at4, k4⟩
                rw [← HT2.out.1] at at4
                rw [← HT2.out.2] at at4
                have RD4 := Lib.hid (RD3.out.pro at4 k4)
                clear a1'
                clear at4 k4
                obtain ⟨v5, hv5⟩ : ∃ v5, v5 = v4 := ⟨_, rfl⟩
                have RD5 := Lib.hid (show Rd w v5 s bw P T2 T2 (M.byteAt l') (Wid O v3 v4) l' A' c' ba gx gy ⟨xd', xx, ⟨xp, xk, xo, xn⟩, xa, xA, xl, xc, xb⟩ (.int .i64 0) (.int .i64 0) (.int .u64 0) (.int .u64 0) (.int .i64 0) (.int .i64 0) (.int .u64 0) (.int .u64 0) ∧ T2 ≤ T + 4194304 ∧ l'.length ≤ l.length + 1 from ⟨by rw [hv5]; exact RD4.out, by have := HT2.out.1; omega, LEN.out⟩)
                rw [← hv5]
                clear hv5 RD4 RD3
                have HSS := Lib.hid (show ∀ W, Below v5.heap.size v5 W → (W.cell? ⟨gx, 0, none⟩ = some (.int .i64 0) ∧ W.cell? ⟨gx, 1, none⟩ = some (.int .i64 0) ∧ W.cell? ⟨gx, 2, none⟩ = some (.int .u64 0) ∧ W.cell? ⟨gx, 3, none⟩ = some (.int .u64 0)) ∧ (W.cell? ⟨gy, 0, none⟩ = some (.int .i64 0) ∧ W.cell? ⟨gy, 1, none⟩ = some (.int .i64 0) ∧ W.cell? ⟨gy, 2, none⟩ = some (.int .u64 0) ∧ W.cell? ⟨gy, 3, none⟩ = some (.int .u64 0)) ∧ W.cell? ⟨bw, 2, none⟩ = some (.int .i64 (T2 : Int)) from fun W hW => ⟨⟨(RD5.out.1.below hW).bx.c0, (RD5.out.1.below hW).bx.c1, (RD5.out.1.below hW).bx.c2, (RD5.out.1.below hW).bx.c3⟩, ⟨(RD5.out.1.below hW).by'.c0, (RD5.out.1.below hW).by'.c1, (RD5.out.1.below hW).by'.c2, (RD5.out.1.below hW).by'.c3⟩, (RD5.out.1.below hW).rf.c2⟩)
                have B0 := Lib.hid ((Below.refl v5.heap.size v5).drew)
                go_wp2_with fail
                refine wp_region_noPanic ?_
                refine wp_region_held_drew (S := fun W => (W.cell? ⟨gx, 0, none⟩ = some (.int .i64 0) ∧ W.cell? ⟨gx, 1, none⟩ = some (.int .i64 0) ∧ W.cell? ⟨gx, 2, none⟩ = some (.int .u64 0) ∧ W.cell? ⟨gx, 3, none⟩ = some (.int .u64 0)) ∧ (W.cell? ⟨gy, 0, none⟩ = some (.int .i64 0) ∧ W.cell? ⟨gy, 1, none⟩ = some (.int .i64 0) ∧ W.cell? ⟨gy, 2, none⟩ = some (.int .u64 0) ∧ W.cell? ⟨gy, 3, none⟩ = some (.int .u64 0)) ∧ W.cell? ⟨bw, 2, none⟩ = some (.int .i64 (T2 : Int))) (by kernel_rfl) (HSS.out _ B0.out) (fun hHeld => ?_)
                refine wpAnyH_take (i := 0) (oi := ({ dst := some 125, op := Op.load 33 (Operand.tmp 11), type := 33, pos := "law.go:85", after := #[], guard := none } : Oper)) (v := ?_) rfl (by kernel_rfl) (by kernel_rfl) (by kernel_rfl) (fun _ _ _ h => h) (Or.inl ⟨by rfl, ?_⟩) (by assumption) ?_
                rotate_left
                · (intro w hSw; (try dsimp only at hSw); go_simp) <;> with_reducible rfl
                (try simp only [Act.put, List.setIfInBounds_toArray, List.set_cons_zero, List.set_cons_succ])
                refine wpAnyH_take (i := 2) (oi := ({ dst := some 127, op := Op.load 37 (Operand.tmp 12), type := 37, pos := "law.go:85", after := #[], guard := none } : Oper)) (v := ?_) rfl (by kernel_rfl) (by kernel_rfl) (by kernel_rfl) (fun _ _ _ h => h) (Or.inl ⟨by rfl, ?_⟩) (by assumption) ?_
                rotate_left
                · (intro w hSw; (try dsimp only at hSw); go_simp) <;> with_reducible rfl
                (try simp only [Act.put, List.setIfInBounds_toArray, List.set_cons_zero, List.set_cons_succ])
                refine wpAnyH_ready (rs := [1]) (by kernel_rfl) (by simp) ?_
                refine AllReadyH.cons (o := ({ dst := some 126, op := Op.call { callee := Callee.value (Operand.func 13), args := #[Operand.tmp 125], argTypes := #[33] }, type := 37, pos := "law.go:85", after := #[{ on := 0, ground := Ground.data }], guard := none } : Oper)) rfl (fun K hK => ?_) ?_
                · go_simp
                  refine (model_any 0 0 0 0 _).mono ?_
                  rintro e y5 ⟨rfl, q5⟩
                  have B5 := Lib.hid (below_call B0.out q5)
                  clear q5
                  go_wp2_with fail
                  refine hK.out _ _ ?_ (fun hHeld => ?_)
                  · exact HSS.out _ B5.out
                  clear hK K
                  (try simp only [Act.put, List.setIfInBounds_toArray, List.set_cons_zero, List.set_cons_succ])
                  refine wpAnyH_take (i := 3) (oi := ({ dst := some 128, op := Op.binOp BinOp.neq 37 (Operand.tmp 126) (Operand.tmp 127) 37, type := 4, pos := "law.go:85", after := #[{ on := 1, ground := Ground.data }, { on := 2, ground := Ground.data }], guard := none } : Oper)) (v := ?_) rfl (by kernel_rfl) (by kernel_rfl) (by kernel_rfl) (fun _ _ _ h => h) (Or.inl ⟨by rfl, ?_⟩) (by assumption) ?_
                  rotate_left
                  · (intro w hSw; (try dsimp only at hSw); go_simp) <;> with_reducible rfl
                  (try simp only [Act.put, List.setIfInBounds_toArray, List.set_cons_zero, List.set_cons_succ])
                  refine wpAnyH_take (i := 4) (oi := ({ dst := some 129, op := Op.move (Operand.tmp 128), type := 4, pos := "law.go:85", after := #[{ on := 3, ground := Ground.data }, { on := 1, ground := Ground.chain }], guard := none } : Oper)) (v := ?_) rfl (by kernel_rfl) (by kernel_rfl) (by kernel_rfl) (fun _ _ _ h => h) (Or.inl ⟨by rfl, ?_⟩) (by assumption) ?_
                  rotate_left
                  · (intro w hSw; (try dsimp only at hSw); go_simp) <;> with_reducible rfl
                  (try simp only [Act.put, List.setIfInBounds_toArray, List.set_cons_zero, List.set_cons_succ])
                  refine wpAnyH_take (i := 5) (oi := ({ dst := some 130, op := Op.move (Operand.tmp 13), type := 38, pos := "law.go:85", after := #[{ on := 4, ground := Ground.guard }], guard := some (4, false) } : Oper)) (v := ?_) rfl (by kernel_rfl) (by kernel_rfl) (by kernel_rfl) (fun _ _ _ h => h) (Or.inl ⟨by rfl, ?_⟩) (by assumption) ?_
                  rotate_left
                  · (intro w hSw; (try dsimp only at hSw); go_simp) <;> with_reducible rfl
                  (try simp only [Act.put, List.setIfInBounds_toArray, List.set_cons_zero, List.set_cons_succ])
                  refine wpAnyH_take (i := 6) (oi := ({ dst := some 131, op := Op.move (Operand.tmp 14), type := 38, pos := "law.go:85", after := #[{ on := 4, ground := Ground.guard }], guard := some (4, false) } : Oper)) (v := ?_) rfl (by kernel_rfl) (by kernel_rfl) (by kernel_rfl) (fun _ _ _ h => h) (Or.inl ⟨by rfl, ?_⟩) (by assumption) ?_
                  rotate_left
                  · (intro w hSw; (try dsimp only at hSw); go_simp) <;> with_reducible rfl
                  (try simp only [Act.put, List.setIfInBounds_toArray, List.set_cons_zero, List.set_cons_succ])
                  refine wpAnyH_take (i := 7) (oi := ({ dst := some 132, op := Op.binOp BinOp.neq 38 (Operand.tmp 130) (Operand.tmp 131) 38, type := 4, pos := "law.go:85", after := #[{ on := 5, ground := Ground.data }, { on := 6, ground := Ground.data }, { on := 4, ground := Ground.guard }], guard := some (4, false) } : Oper)) (v := ?_) rfl (by kernel_rfl) (by kernel_rfl) (by kernel_rfl) (fun _ _ _ h => h) (Or.inl ⟨by rfl, ?_⟩) (by assumption) ?_
                  rotate_left
                  · (intro w hSw; (try dsimp only at hSw); go_simp) <;> with_reducible rfl
                  (try simp only [Act.put, List.setIfInBounds_toArray, List.set_cons_zero, List.set_cons_succ])
                  refine wpAnyH_take (i := 8) (oi := ({ dst := some 133, op := Op.pick (Operand.tmp 129) (Operand.const (Value.bool true)) (Operand.tmp 132), type := 4, pos := "law.go:85", after := #[{ on := 4, ground := Ground.data }, { on := 7, ground := Ground.data }], guard := none } : Oper)) (v := ?_) rfl (by kernel_rfl) (by kernel_rfl) (by kernel_rfl) (fun _ _ _ h => h) (Or.inl ⟨by rfl, ?_⟩) (by assumption) ?_
                  rotate_left
                  · (intro w hSw; (try dsimp only at hSw); go_simp) <;> with_reducible rfl
                  (try simp only [Act.put, List.setIfInBounds_toArray, List.set_cons_zero, List.set_cons_succ])
                  refine wpAnyH_take (i := 9) (oi := ({ dst := some 134, op := Op.move (Operand.tmp 133), type := 4, pos := "law.go:85", after := #[{ on := 8, ground := Ground.data }, { on := 4, ground := Ground.chain }], guard := none } : Oper)) (v := ?_) rfl (by kernel_rfl) (by kernel_rfl) (by kernel_rfl) (fun _ _ _ h => h) (Or.inl ⟨by rfl, ?_⟩) (by assumption) ?_
                  rotate_left
                  · (intro w hSw; (try dsimp only at hSw); go_simp) <;> with_reducible rfl
                  (try simp only [Act.put, List.setIfInBounds_toArray, List.set_cons_zero, List.set_cons_succ])
                  refine wpAnyH_take (i := 10) (oi := ({ dst := some 135, op := Op.move (Operand.tmp 7), type := 25, pos := "law.go:85", after := #[{ on := 9, ground := Ground.guard }], guard := some (9, false) } : Oper)) (v := ?_) rfl (by kernel_rfl) (by kernel_rfl) (by kernel_rfl) (fun _ _ _ h => h) (Or.inl ⟨by rfl, ?_⟩) (by assumption) ?_
                  rotate_left
                  · (intro w hSw; (try dsimp only at hSw); go_simp) <;> with_reducible rfl
                  (try simp only [Act.put, List.setIfInBounds_toArray, List.set_cons_zero, List.set_cons_succ])
                  refine wpAnyH_take (i := 12) (oi := ({ dst := some 137, op := Op.fieldAddr 29 (Operand.tmp 8) 2, type := 0, pos := "law.go:85", after := #[{ on := 9, ground := Ground.guard }], guard := some (9, false) } : Oper)) (v := ?_) rfl (by kernel_rfl) (by kernel_rfl) (by kernel_rfl) (fun _ _ _ h => h) (Or.inl ⟨by rfl, ?_⟩) (by assumption) ?_
                  rotate_left
                  · (intro w hSw; (try dsimp only at hSw); go_simp) <;> with_reducible rfl
                  (try simp only [Act.put, List.setIfInBounds_toArray, List.set_cons_zero, List.set_cons_succ])
                  refine wpAnyH_take (i := 13) (oi := ({ dst := some 138, op := Op.load 3 (Operand.tmp 137), type := 3, pos := "law.go:85", after := #[{ on := 12, ground := Ground.data }, { on := 9, ground := Ground.guard }], guard := some (9, false) } : Oper)) (v := ?_) rfl (by kernel_rfl) (by kernel_rfl) (by kernel_rfl) (fun _ _ _ h => h) (Or.inl ⟨by rfl, ?_⟩) (by assumption) ?_
                  rotate_left
                  · (intro w hSw; (try dsimp only at hSw); go_simp) <;> with_reducible rfl
                  (try simp only [Act.put, List.setIfInBounds_toArray, List.set_cons_zero, List.set_cons_succ])
                  refine wpAnyH_ready (rs := [11]) (by kernel_rfl) (by simp) ?_
                  refine AllReadyH.cons (o := ({ dst := some 136, op := Op.call { callee := Callee.value (Operand.func 23), args := #[Operand.tmp 135], argTypes := #[25] }, type := 3, pos := "law.go:85", after := #[{ on := 10, ground := Ground.data }, { on := 9, ground := Ground.chain }, { on := 9, ground := Ground.guard }], guard := some (9, false) } : Oper)) rfl (fun K hK => ?_) ?_
                  · go_simp
                    refine (ticks_at (RD5.out.1.below B5.out).at').mono ?_
                    rintro e w' ⟨rfl, rfl⟩
                    go_wp2_with fail
                    refine hK.out _ _ ?_ (fun hHeld => ?_)
                    · exact HSS.out _ B5.out
                    clear hK K
                    (try simp only [Act.put, List.setIfInBounds_toArray, List.set_cons_zero, List.set_cons_succ])
                    refine wpAnyH_take (i := 14) (oi := ({ dst := some 139, op := Op.binOp BinOp.neq 3 (Operand.tmp 136) (Operand.tmp 138) 3, type := 4, pos := "law.go:85", after := #[{ on := 11, ground := Ground.data }, { on := 13, ground := Ground.data }, { on := 9, ground := Ground.guard }], guard := some (9, false) } : Oper)) (v := ?_) rfl (by kernel_rfl) (by kernel_rfl) (by kernel_rfl) (fun _ _ _ h => h) (Or.inl ⟨by rfl, ?_⟩) (by assumption) ?_
                    rotate_left
                    · (intro w hSw; (try dsimp only at hSw); go_simp) <;> with_reducible rfl
                    (try simp only [Act.put, List.setIfInBounds_toArray, List.set_cons_zero, List.set_cons_succ])
                    refine wpAnyH_take (i := 15) (oi := ({ dst := some 140, op := Op.pick (Operand.tmp 134) (Operand.const (Value.bool true)) (Operand.tmp 139), type := 4, pos := "law.go:85", after := #[{ on := 9, ground := Ground.data }, { on := 14, ground := Ground.data }], guard := none } : Oper)) (v := ?_) rfl (by kernel_rfl) (by kernel_rfl) (by kernel_rfl) (fun _ _ _ h => h) (Or.inl ⟨by rfl, ?_⟩) (by assumption) ?_
                    rotate_left
                    · (intro w hSw; (try dsimp only at hSw); go_simp) <;> with_reducible rfl
                    (try simp only [Act.put, List.setIfInBounds_toArray, List.set_cons_zero, List.set_cons_succ])
                    refine wpAnyH_done (by kernel_rfl) ?_ _
                    refine NoPanic.normal ?_
                    go_wp2_with fail
                    go_roundw
                    case rel => exact ⟨k + 1, by omega, by go_num, T2, _, _, _, _, (RD5.out.1.below B5.out).at', (RD5.out.1.below B5.out).rf, by have := RD5.out.2.1; have := R0.out.1; omega, by have := RD5.out.2.2; have := R0.out.2.1; omega, RD5.out.1.lo⟩
                    case measure => simp [intOf]; omega
                  exact AllReadyH.nil
                exact AllReadyH.nil
              · have i3 : ¬ ((xd : Int) = 3) := by omega
                have i3' : ((xd : Int) == 3) = false := by simp; omega
                obtain ⟨xd', hxd'⟩ : ∃ z : Nat, z = xd := ⟨_, rfl⟩
                rw [← hxd'] at R1
                clear hxd'
                have hdoc := doc1 v1 P A ln c T hP2 l R1.out.2 (R1.out.1.rf.log) R1.out.1.rf.ok (by omega) (fun h => R1.out.1.rf.emp (by have := R1.out.2; omega)) (by omega) xa xl xb HX.out.2.2.1.symm HX.out.2.1 (by omega)
                have HD := Lib.hid hdoc
                have hcv := conv_at v1 xA xl xb xc HX.out.2.2.1 (HX.out.2.2.2.1.below R1.out.1.at'.bel)
                clear hdoc
                have r0 := R1.out.1.rf.c0
                have r1 := R1.out.1.rf.c1
                have r2 := R1.out.1.rf.c2
                rw [← R1.out.2] at r1
                have a6' := R1.out.1.ac.c6
                have a7' := R1.out.1.ac.c7
                simp only at a6' a7'
                go_wp2_with fail
                refine HD.out.mono ?_
                rintro e y2 ⟨l', A', c', tk, er, n', T2, hT2, rfl, hn2, hlog, hfr, q2, hsp⟩
                have hle := hsp.le hP2 HX.out.2.2.1.symm HX.out.2.1 R1.out.1.rf.ok
                have hok2 := hle.2.2
                have htk := hle.1
                have HT2 := Lib.hid (show T2 = T + tk ∧ True from ⟨hT2, trivial⟩)
                have LEN := Lib.hid hle.2.1
                have HSP := Lib.hid hsp
                clear hle hsp hcv
                clear r0 r1 r2
                clear a6' a7'
                have rdd := R1.out.1.doc (T2 := T2) q2 hlog hfr hok2
                rw [← hn2] at rdd
                have RDD := Lib.hid rdd
                have s2 := R1.out.1.below q2
                have r0 := s2.rf.c0
                have r1 := s2.rf.c1
                have r2 := s2.rf.c2
                have rz := s2.rf.fz
                rw [← R1.out.2] at r1
                clear rdd s2
                clear hT2 hn2 hlog hfr q2 hok2
                go_upto_region 19 with fail
                clear r0 r1 r2 rz
                obtain ⟨v3, hv3⟩ : ∃ v3, v3 = ((y2.setCell ⟨bw, 0, none⟩ (.int .i64 (P : Int))).setCell ⟨bw, 1, none⟩ (.slice A' n' c')).setCell ⟨bw, 2, none⟩ (.int .i64 (T2 : Int)) := ⟨_, rfl⟩
                rw [← hv3]
                have RD3 := Lib.hid (show Rd w v3 s bw P T T2 (M.byteAt l) O l' A' c' ba gx gy ⟨xd', xx, ⟨xp, xk, xo, xn⟩, xa, xA, xl, xc, xb⟩ (.int .i64 0) (.int .i64 0) (.int .u64 0) (.int .u64 0) (.int .i64 0) (.int .i64 0) (.int .u64 0) (.int .u64 0) from by rw [hv3]; exact RDD.out)
                clear hv3 RDD
                have a6' := RD3.out.ac.c6
                have a7' := RD3.out.ac.c7
                simp only at a6' a7'
                have lb : ∀ ad, 0 < xb.length → xA = some ad → ad.block < w.heap.size := fun ad h0 e => lies_low HX.out.2.2.2.1 h0 ad e
                have PRO := Lib.hid (pro1 (w := v3) (l := l) RD3.out.at' (by omega) xa xl xc xA xb HX.out.2.2.1 (HX.out.2.2.2.1.below RD3.out.at'.bel) ncap (fun h0 ad e hO => by have := lb ad h0 e; have := RD3.out.at'.old _ hO; omega) HX.out.2.1 (by omega) l' tk er HSP.out)
                clear lb
                go_wp2_with fail
                refine PRO.out.mono ?_
                rintro e v4 ⟨rfl, at4, k4⟩
                rw [← HT2.out.1] at at4
                have RD4 := Lib.hid (RD3.out.pro at4 k4)
                clear a6' a7'
                clear at4 k4
                obtain ⟨v5, hv5⟩ : ∃ v5, v5 = v4 := ⟨_, rfl⟩
                have RD5 := Lib.hid (show Rd w v5 s bw P T2 T2 (M.byteAt l') (Wid O v3 v4) l' A' c' ba gx gy ⟨xd', xx, ⟨xp, xk, xo, xn⟩, xa, xA, xl, xc, xb⟩ (.int .i64 0) (.int .i64 0) (.int .u64 0) (.int .u64 0) (.int .i64 0) (.int .i64 0) (.int .u64 0) (.int .u64 0) ∧ T2 ≤ T + 4194304 ∧ l'.length ≤ l.length + 1 from ⟨by rw [hv5]; exact RD4.out, by have := HT2.out.1; omega, LEN.out⟩)
                rw [← hv5]
                clear hv5 RD4 RD3
                have HSS := Lib.hid (show ∀ W, Below v5.heap.size v5 W → (W.cell? ⟨gx, 0, none⟩ = some (.int .i64 0) ∧ W.cell? ⟨gx, 1, none⟩ = some (.int .i64 0) ∧ W.cell? ⟨gx, 2, none⟩ = some (.int .u64 0) ∧ W.cell? ⟨gx, 3, none⟩ = some (.int .u64 0)) ∧ (W.cell? ⟨gy, 0, none⟩ = some (.int .i64 0) ∧ W.cell? ⟨gy, 1, none⟩ = some (.int .i64 0) ∧ W.cell? ⟨gy, 2, none⟩ = some (.int .u64 0) ∧ W.cell? ⟨gy, 3, none⟩ = some (.int .u64 0)) ∧ W.cell? ⟨bw, 2, none⟩ = some (.int .i64 (T2 : Int)) from fun W hW => ⟨⟨(RD5.out.1.below hW).bx.c0, (RD5.out.1.below hW).bx.c1, (RD5.out.1.below hW).bx.c2, (RD5.out.1.below hW).bx.c3⟩, ⟨(RD5.out.1.below hW).by'.c0, (RD5.out.1.below hW).by'.c1, (RD5.out.1.below hW).by'.c2, (RD5.out.1.below hW).by'.c3⟩, (RD5.out.1.below hW).rf.c2⟩)
                have B0 := Lib.hid ((Below.refl v5.heap.size v5).drew)
                go_wp2_with fail
                refine wp_region_noPanic ?_
                refine wp_region_held_drew (S := fun W => (W.cell? ⟨gx, 0, none⟩ = some (.int .i64 0) ∧ W.cell? ⟨gx, 1, none⟩ = some (.int .i64 0) ∧ W.cell? ⟨gx, 2, none⟩ = some (.int .u64 0) ∧ W.cell? ⟨gx, 3, none⟩ = some (.int .u64 0)) ∧ (W.cell? ⟨gy, 0, none⟩ = some (.int .i64 0) ∧ W.cell? ⟨gy, 1, none⟩ = some (.int .i64 0) ∧ W.cell? ⟨gy, 2, none⟩ = some (.int .u64 0) ∧ W.cell? ⟨gy, 3, none⟩ = some (.int .u64 0)) ∧ W.cell? ⟨bw, 2, none⟩ = some (.int .i64 (T2 : Int))) (by kernel_rfl) (HSS.out _ B0.out) (fun hHeld => ?_)
                refine wpAnyH_take (i := 0) (oi := ({ dst := some 125, op := Op.load 33 (Operand.tmp 11), type := 33, pos := "law.go:85", after := #[], guard := none } : Oper)) (v := ?_) rfl (by kernel_rfl) (by kernel_rfl) (by kernel_rfl) (fun _ _ _ h => h) (Or.inl ⟨by rfl, ?_⟩) (by assumption) ?_
                rotate_left
                · (intro w hSw; (try dsimp only at hSw); go_simp) <;> with_reducible rfl
                (try simp only [Act.put, List.setIfInBounds_toArray, List.set_cons_zero, List.set_cons_succ])
                refine wpAnyH_take (i := 2) (oi := ({ dst := some 127, op := Op.load 37 (Operand.tmp 12), type := 37, pos := "law.go:85", after := #[], guard := none } : Oper)) (v := ?_) rfl (by kernel_rfl) (by kernel_rfl) (by kernel_rfl) (fun _ _ _ h => h) (Or.inl ⟨by rfl, ?_⟩) (by assumption) ?_
                rotate_left
                · (intro w hSw; (try dsimp only at hSw); go_simp) <;> with_reducible rfl
                (try simp only [Act.put, List.setIfInBounds_toArray, List.set_cons_zero, List.set_cons_succ])
                refine wpAnyH_ready (rs := [1]) (by kernel_rfl) (by simp) ?_
                refine AllReadyH.cons (o := ({ dst := some 126, op := Op.call { callee := Callee.value (Operand.func 13), args := #[Operand.tmp 125], argTypes := #[33] }, type := 37, pos := "law.go:85", after := #[{ on := 0, ground := Ground.data }], guard := none } : Oper)) rfl (fun K hK => ?_) ?_
                · go_simp
                  refine (model_any 0 0 0 0 _).mono ?_
                  rintro e y5 ⟨rfl, q5⟩
                  have B5 := Lib.hid (below_call B0.out q5)
                  clear q5
                  go_wp2_with fail
                  refine hK.out _ _ ?_ (fun hHeld => ?_)
                  · exact HSS.out _ B5.out
                  clear hK K
                  (try simp only [Act.put, List.setIfInBounds_toArray, List.set_cons_zero, List.set_cons_succ])
                  refine wpAnyH_take (i := 3) (oi := ({ dst := some 128, op := Op.binOp BinOp.neq 37 (Operand.tmp 126) (Operand.tmp 127) 37, type := 4, pos := "law.go:85", after := #[{ on := 1, ground := Ground.data }, { on := 2, ground := Ground.data }], guard := none } : Oper)) (v := ?_) rfl (by kernel_rfl) (by kernel_rfl) (by kernel_rfl) (fun _ _ _ h => h) (Or.inl ⟨by rfl, ?_⟩) (by assumption) ?_
                  rotate_left
                  · (intro w hSw; (try dsimp only at hSw); go_simp) <;> with_reducible rfl
                  (try simp only [Act.put, List.setIfInBounds_toArray, List.set_cons_zero, List.set_cons_succ])
                  refine wpAnyH_take (i := 4) (oi := ({ dst := some 129, op := Op.move (Operand.tmp 128), type := 4, pos := "law.go:85", after := #[{ on := 3, ground := Ground.data }, { on := 1, ground := Ground.chain }], guard := none } : Oper)) (v := ?_) rfl (by kernel_rfl) (by kernel_rfl) (by kernel_rfl) (fun _ _ _ h => h) (Or.inl ⟨by rfl, ?_⟩) (by assumption) ?_
                  rotate_left
                  · (intro w hSw; (try dsimp only at hSw); go_simp) <;> with_reducible rfl
                  (try simp only [Act.put, List.setIfInBounds_toArray, List.set_cons_zero, List.set_cons_succ])
                  refine wpAnyH_take (i := 5) (oi := ({ dst := some 130, op := Op.move (Operand.tmp 13), type := 38, pos := "law.go:85", after := #[{ on := 4, ground := Ground.guard }], guard := some (4, false) } : Oper)) (v := ?_) rfl (by kernel_rfl) (by kernel_rfl) (by kernel_rfl) (fun _ _ _ h => h) (Or.inl ⟨by rfl, ?_⟩) (by assumption) ?_
                  rotate_left
                  · (intro w hSw; (try dsimp only at hSw); go_simp) <;> with_reducible rfl
                  (try simp only [Act.put, List.setIfInBounds_toArray, List.set_cons_zero, List.set_cons_succ])
                  refine wpAnyH_take (i := 6) (oi := ({ dst := some 131, op := Op.move (Operand.tmp 14), type := 38, pos := "law.go:85", after := #[{ on := 4, ground := Ground.guard }], guard := some (4, false) } : Oper)) (v := ?_) rfl (by kernel_rfl) (by kernel_rfl) (by kernel_rfl) (fun _ _ _ h => h) (Or.inl ⟨by rfl, ?_⟩) (by assumption) ?_
                  rotate_left
                  · (intro w hSw; (try dsimp only at hSw); go_simp) <;> with_reducible rfl
                  (try simp only [Act.put, List.setIfInBounds_toArray, List.set_cons_zero, List.set_cons_succ])
                  refine wpAnyH_take (i := 7) (oi := ({ dst := some 132, op := Op.binOp BinOp.neq 38 (Operand.tmp 130) (Operand.tmp 131) 38, type := 4, pos := "law.go:85", after := #[{ on := 5, ground := Ground.data }, { on := 6, ground := Ground.data }, { on := 4, ground := Ground.guard }], guard := some (4, false) } : Oper)) (v := ?_) rfl (by kernel_rfl) (by kernel_rfl) (by kernel_rfl) (fun _ _ _ h => h) (Or.inl ⟨by rfl, ?_⟩) (by assumption) ?_
                  rotate_left
                  · (intro w hSw; (try dsimp only at hSw); go_simp) <;> with_reducible rfl
                  (try simp only [Act.put, List.setIfInBounds_toArray, List.set_cons_zero, List.set_cons_succ])
                  refine wpAnyH_take (i := 8) (oi := ({ dst := some 133, op := Op.pick (Operand.tmp 129) (Operand.const (Value.bool true)) (Operand.tmp 132), type := 4, pos := "law.go:85", after := #[{ on := 4, ground := Ground.data }, { on := 7, ground := Ground.data }], guard := none } : Oper)) (v := ?_) rfl (by kernel_rfl) (by kernel_rfl) (by kernel_rfl) (fun _ _ _ h => h) (Or.inl ⟨by rfl, ?_⟩) (by assumption) ?_
                  rotate_left
                  · (intro w hSw; (try dsimp only at hSw); go_simp) <;> with_reducible rfl
                  (try simp only [Act.put, List.setIfInBounds_toArray, List.set_cons_zero, List.set_cons_succ])
                  refine wpAnyH_take (i := 9) (oi := ({ dst := some 134, op := Op.move (Operand.tmp 133), type := 4, pos := "law.go:85", after := #[{ on := 8, ground := Ground.data }, { on := 4, ground := Ground.chain }], guard := none } : Oper)) (v := ?_) rfl (by kernel_rfl) (by kernel_rfl) (by kernel_rfl) (fun _ _ _ h => h) (Or.inl ⟨by rfl, ?_⟩) (by assumption) ?_
                  rotate_left
                  · (intro w hSw; (try dsimp only at hSw); go_simp) <;> with_reducible rfl
                  (try simp only [Act.put, List.setIfInBounds_toArray, List.set_cons_zero, List.set_cons_succ])
                  refine wpAnyH_take (i := 10) (oi := ({ dst := some 135, op := Op.move (Operand.tmp 7), type := 25, pos := "law.go:85", after := #[{ on := 9, ground := Ground.guard }], guard := some (9, false) } : Oper)) (v := ?_) rfl (by kernel_rfl) (by kernel_rfl) (by kernel_rfl) (fun _ _ _ h => h) (Or.inl ⟨by rfl, ?_⟩) (by assumption) ?_
                  rotate_left
                  · (intro w hSw; (try dsimp only at hSw); go_simp) <;> with_reducible rfl
                  (try simp only [Act.put, List.setIfInBounds_toArray, List.set_cons_zero, List.set_cons_succ])
                  refine wpAnyH_take (i := 12) (oi := ({ dst := some 137, op := Op.fieldAddr 29 (Operand.tmp 8) 2, type := 0, pos := "law.go:85", after := #[{ on := 9, ground := Ground.guard }], guard := some (9, false) } : Oper)) (v := ?_) rfl (by kernel_rfl) (by kernel_rfl) (by kernel_rfl) (fun _ _ _ h => h) (Or.inl ⟨by rfl, ?_⟩) (by assumption) ?_
                  rotate_left
                  · (intro w hSw; (try dsimp only at hSw); go_simp) <;> with_reducible rfl
                  (try simp only [Act.put, List.setIfInBounds_toArray, List.set_cons_zero, List.set_cons_succ])
                  refine wpAnyH_take (i := 13) (oi := ({ dst := some 138, op := Op.load 3 (Operand.tmp 137), type := 3, pos := "law.go:85", after := #[{ on := 12, ground := Ground.data }, { on := 9, ground := Ground.guard }], guard := some (9, false) } : Oper)) (v := ?_) rfl (by kernel_rfl) (by kernel_rfl) (by kernel_rfl) (fun _ _ _ h => h) (Or.inl ⟨by rfl, ?_⟩) (by assumption) ?_
                  rotate_left
                  · (intro w hSw; (try dsimp only at hSw); go_simp) <;> with_reducible rfl
                  (try simp only [Act.put, List.setIfInBounds_toArray, List.set_cons_zero, List.set_cons_succ])
                  refine wpAnyH_ready (rs := [11]) (by kernel_rfl) (by simp) ?_
                  refine AllReadyH.cons (o := ({ dst := some 136, op := Op.call { callee := Callee.value (Operand.func 23), args := #[Operand.tmp 135], argTypes := #[25] }, type := 3, pos := "law.go:85", after := #[{ on := 10, ground := Ground.data }, { on := 9, ground := Ground.chain }, { on := 9, ground := Ground.guard }], guard := some (9, false) } : Oper)) rfl (fun K hK => ?_) ?_
                  · go_simp
                    refine (ticks_at (RD5.out.1.below B5.out).at').mono ?_
                    rintro e w' ⟨rfl, rfl⟩
                    go_wp2_with fail
                    refine hK.out _ _ ?_ (fun hHeld => ?_)
                    · exact HSS.out _ B5.out
                    clear hK K
                    (try simp only [Act.put, List.setIfInBounds_toArray, List.set_cons_zero, List.set_cons_succ])
                    refine wpAnyH_take (i := 14) (oi := ({ dst := some 139, op := Op.binOp BinOp.neq 3 (Operand.tmp 136) (Operand.tmp 138) 3, type := 4, pos := "law.go:85", after := #[{ on := 11, ground := Ground.data }, { on := 13, ground := Ground.data }, { on := 9, ground := Ground.guard }], guard := some (9, false) } : Oper)) (v := ?_) rfl (by kernel_rfl) (by kernel_rfl) (by kernel_rfl) (fun _ _ _ h => h) (Or.inl ⟨by rfl, ?_⟩) (by assumption) ?_
                    rotate_left
                    · (intro w hSw; (try dsimp only at hSw); go_simp) <;> with_reducible rfl
                    (try simp only [Act.put, List.setIfInBounds_toArray, List.set_cons_zero, List.set_cons_succ])
                    refine wpAnyH_take (i := 15) (oi := ({ dst := some 140, op := Op.pick (Operand.tmp 134) (Operand.const (Value.bool true)) (Operand.tmp 139), type := 4, pos := "law.go:85", after := #[{ on := 9, ground := Ground.data }, { on := 14, ground := Ground.data }], guard := none } : Oper)) (v := ?_) rfl (by kernel_rfl) (by kernel_rfl) (by kernel_rfl) (fun _ _ _ h => h) (Or.inl ⟨by rfl, ?_⟩) (by assumption) ?_
                    rotate_left
                    · (intro w hSw; (try dsimp only at hSw); go_simp) <;> with_reducible rfl
                    (try simp only [Act.put, List.setIfInBounds_toArray, List.set_cons_zero, List.set_cons_succ])
                    refine wpAnyH_done (by kernel_rfl) ?_ _
                    refine NoPanic.normal ?_
                    go_wp2_with fail
                    go_roundw
                    case rel => exact ⟨k + 1, by omega, by go_num, T2, _, _, _, _, (RD5.out.1.below B5.out).at', (RD5.out.1.below B5.out).rf, by have := RD5.out.2.1; have := R0.out.1; omega, by have := RD5.out.2.2; have := R0.out.2.1; omega, RD5.out.1.lo⟩
                    case measure => simp [intOf]; omega
                  exact AllReadyH.nil
                exact AllReadyH.nil
      · obtain ⟨T, O, l, A, c, at0, rf0, hT, hll, lo⟩ := hrel
        have HW := Lib.hid at0.bel
        clear at0 rf0 hT hll ST lo
        go_wp2_with fail
        refine (read_nil _).mono ?_
        rintro e v1 ⟨rfl, b1⟩
        have HW1 := Lib.hid (below_call (below_call HW.out b1) (below_new v1 (.cells #[.int .i64 0, .int .i64 0, .int .u64 0, .int .u64 0] 33)))
        clear b1
        go_upto_region 35 with fail
        generalize v1.alloc (.cells #[.int .i64 0, .int .i64 0, .int .u64 0, .int .u64 0] 33) = v2 at *
        generalize v1.heap.size = g15 at *
        go_wp2_with fail
        refine (write_arg (.pointer none) 0 0 0 0 0 (by decide) _).mono ?_
        rintro e v3 ⟨rfl, b3⟩
        have HW3 := Lib.hid (below_call HW1.out b3)
        clear b3
        go_wp2_with fail
        refine (write_nil 1 0 (by decide) _).mono ?_
        rintro e v4 ⟨rfl, b4⟩
        have HW4 := Lib.hid (below_call HW3.out b4)
        clear b4
        go_wp2_with fail
        refine (link_nil 1 _).mono ?_
        rintro e v5 ⟨rfl, b5⟩
        have HW5 := Lib.hid (below_call HW4.out b5)
        clear b5
        go_wp2_with fail
        refine (clear_nil _).mono ?_
        rintro e v6 ⟨rfl, b6⟩
        have HW6 := Lib.hid (below_call HW5.out b6)
        clear b6
        go_wp2_with fail
        go_ret
        exact ⟨rfl, HW6.out⟩
  · have hf' : fewB ls = false := by simpa using hf
    clear hf
    go_wp2
    go_ret
    exact ⟨rfl, B1.out⟩

/-! The row's step. -/
set_option maxRecDepth 100000 in
theorem lifted (os : Os) (started : os.Started) (H : Type) (enc : TypeId × Value → H) :
    ReturnsInHanded {} Try.checked os 3 .any (Rows.headerPlaysSpec.pre6 enc Try.prog Try.f3 Rows.headerPlaysRow.domain false) (Rows.headerPlaysSpec.post enc Try.prog Try.f3 false true false false) := by
  refine returnsInHanded_of_change (C := Try.checked) own started (by kernel_rfl) Try.func3
    (ChangeSpec.witness6 (enc := enc) (C := Try.checked) false ⟨#[], #[.int .i64 0, .slice none 0 0], []⟩ 8 (by kernel_rfl) (by kernel_rfl) (by kernel_rfl) (by kernel_rfl)) ?_
  intro W base args ds gs before hval0 hW hcnd _
  have hval : ∀ (j : Nat) t v, Try.f3.params[j]? = some t → args[j]? = some v → Value.okWide Try.prog W .any base t v := hval0
  have hW' := hW
  obtain ⟨p, q, hA0, hV, rfl, hfz, hnd⟩ := hW
  have hA : DataW.TrodAll enc Try.prog W 0 (fun _ => true) true Try.f3.params.toList args.toList ds p := hA0
  rw [Try.params3] at hA hval
  obtain ⟨v0, vs0, d0, ds0, p0, q0, hargs, rfl, rfl, h0, r0⟩ := trodAll_cons hA
  obtain ⟨v1, vs1, d1, ds1, p1, q1, rfl, rfl, rfl, h1, r1⟩ := trodAll_cons r0
  obtain ⟨rfl, rfl, rfl⟩ := trodAll_nil r1
  obtain rfl : args = #[v0, v1] := by cases args; simp_all
  obtain ⟨rfl, rfl⟩ := trodVars_none hV
  obtain ⟨a0, rfl, rfl, rfl, w0⟩ := open_int Try.underlying3 (hval 0 3 v0 rfl rfl) h0
  obtain ⟨a1, len1, cap1, rfl⟩ := okWide_slice Try.underlying22 (hval 1 22 v1 rfl rfl)
  have k1 := h1
  have lt1 : ∀ x ∈ p1, x.block < W.heap.size := by obtain ⟨m, hm⟩ := k1; exact DataW.trod_lt m _ _ _ hm
  have w1 : IsActs W a1 len1 := by
    obtain ⟨fuel, hf⟩ := h1
    obtain ⟨A, l, c, hcs, hw⟩ := acts_open hf
    simp [Value.cells] at hcs
    obtain ⟨rfl, rfl, rfl⟩ := hcs
    exact hw
  clear hA0 hval0
  refine (walk a0 a1 len1 cap1 W w0 w1).mono fun e W' ⟨he, bel⟩ => ?_
  subst he
  exact ⟨_, rfl, _, _, _, [], _, [], hW', trodAll_mk1 (shut_bool Try.underlying4 _), (trodAll_cons_mk (shut_int Try.underlying3 w0) (trodAll_cons_mk (Below.trod laidOut (by kernel_rfl) (of_decide_eq_true (by kernel_rfl)) k1 bel lt1) trodAll_mk0)), rfl, bel.frame _, fun h => by cases h⟩

theorem over : Rows.headerPlaysRow.holds Try.pinned (OpenSpec.ofChange Rows.headerPlaysSpec) :=
  OpenClaim.holds_of_wide 3 Try.f3 rfl rfl rfl rfl rfl rfl rfl ⟨rfl, rfl, rfl, rfl, rfl⟩ rfl rfl rfl rfl rfl (by kernel_rfl) Try.func3 (by kernel_rfl)
    (of_decide_eq_true (by kernel_rfl)) (by unfold Func.isWrapper; first | (rw [if_pos (by decide +kernel)]; kernel_rfl) | (rw [if_neg (by decide +kernel)]; exact ⟨rfl, rfl⟩))
    (fun os started H enc _ => lifted os started H enc)

/-- The statement. -/
theorem proved : Rows.HeaderPlaysSaid := over
#print axioms proved
end Go.Proofs.Ytacognejefeboaa.headerPlays
