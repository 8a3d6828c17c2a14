/-
  What Load's closure does to one page's bytes.
-/
import Derived.Test.YtacognejefeboaaEach
namespace Go.Proofs.Ytacognejefeboaa
open Go.ChangeShapes Go.WideShapes Go.ChangeAt Go.RowKit
set_option linter.unusedVariables false
set_option maxRecDepth 20000

/-- 'page[from:to]'. -/
theorem cut_page (W : World) (g c f t : Nat) (hc : 4096 ≤ c) (hf : f < t) (ht : t ≤ 4096) :
    (Instr.slice 34 (.slice (some ⟨g, 0, none⟩) 4096 c) (some (.int .u64 (f : Int))) (some (.int .u64 (t : Int))) none).run Try.prog W = .ok (.slice (some ⟨g, f, none⟩) (t - f) (c - f)) W := by
  rw [run_slice_lh W 34 (some ⟨g, 0, none⟩) 4096 c und22 .u64 .u64 f t (by omega) (by omega) (by omega), elem22, size5]
  simp only [Result.andThen_ok, sliced, Int.toNat_natCast]
  rw [if_neg (by omega)]
  have : (⟨g, 0, none⟩ : Addr).add f = ⟨g, f, none⟩ := by unfold Addr.add; split <;> simp_all
  simp [this]

/-- 'rest[i:]', by a number without a sign. -/
theorem cut_u (A : Option Addr) (n cap i : Nat) (hi : i ≤ n) (hn : n ≤ cap) : ∃ A', (∀ W, (Instr.slice 34 (.slice A n cap) (some (.int .u64 (i : Int))) none none).run Try.prog W = .ok (.slice A' (n - i) (cap - i)) W) ∧
    (∀ (W : World) (xs : List Value), xs.length = n → Lies W A xs → Lies W A' (xs.drop i)) ∧ (∀ a, i < cap → A = some a → A' = some (a.add i)) ∧ (∀ a, A' = some a → ∃ a', A = some a' ∧ a.block = a'.block) := by
  refine ⟨if cap = i then A else A.map (·.add (i * 1)), fun W => by rw [run_slice_l W 34 A n cap und22 .u64 i (by omega) (by omega), elem22, size5]; simp only [Result.andThen_ok, sliced, Int.toNat_natCast], fun W xs hxn h hn => ?_, fun a hc e => ?_, fun a e => ?_⟩
  · have hl : i < xs.length := by simp at hn; omega
    obtain ⟨ad, rfl, hc⟩ := h (by omega)
    refine ⟨ad.add i, by rw [if_neg (by omega)]; simp, fun j hj => ?_⟩
    rw [add_add, hc (i + j) (by simp at hj; omega)]
    simp
  · subst e
    rw [if_neg (by omega)]
    simp
  · split at e
    · exact ⟨a, e, rfl⟩
    · cases A with
      | none => simp at e
      | some a' =>
        refine ⟨a', rfl, ?_⟩
        simp at e
        rw [← e, block_of_add]

/-- A region all of whose operations but the last ones read: the world of the draw under a name of its own. -/
theorem still_tail {P : Program} {id : Nat} {Q : Exit → Act → World → Prop} {a : Act} {w : World} {l : List Oper} (n : Nat) (hm : P.follows .mixedOrders = true) (hB : Region.lexTailB .any l.toArray n = true)
    (h : ∀ w', w' = w.drew → wpStill P l.toArray w' (fun a' => wpList P l.toArray Q (l.drop n) a' w') (l.take n) a) : (Code.region id l.toArray true).wp P Q a w :=
  wp_region_still_tail n hm hB (h _ rfl)

theorem splice_fill (pre p : List UInt8) (d r r' : Nat) (hd : pre.length = d) (hr : r = p.length + r') : M.splice (pre ++ List.replicate r 0) d p = pre ++ p ++ List.replicate r' 0 := by
  unfold M.splice
  rw [List.take_append_of_le_length (by omega), List.take_of_length_le (by omega), List.drop_append, List.drop_of_length_le (by omega), List.nil_append, List.drop_replicate, List.append_assoc]
  congr 3
  omega
/-- 'copy' into a row that may be written. -/
theorem copy_own (W : World) (g o dl dc : Nat) (L : List UInt8) (ho : Own W g L) (A : Option Addr) (sl sc : Nat) (xs p : List UInt8) (hp : p.length = min sl dl) (hpl : o + p.length ≤ L.length) (hxs : Lies W A (u8s xs)) (hx : p = xs.take p.length) (h0 : 0 < p.length) (ty : TypeId) :
    (Builtin.copy_ #[34, 34] ty #[.slice (some ⟨g, o, none⟩) dl dc, .slice A sl sc]).run Try.prog W = .ok (goInt p.length) (W.setCells g o (u8s p)) := by
  have hxl : p.length ≤ xs.length := by
    have := congrArg List.length hx
    simp at this
    omega
  obtain ⟨a, rfl, hc⟩ := hxs (by rw [u8s_length]; omega)
  have := run_copy_cells (P := Try.prog) W 34 34 ty 5 g o dl dc a sl sc (u8s p) Try.underlying34 (by kernel_rfl) (by rw [u8s_length]; exact hp) (fun j v hv => ?_) (fun j hj => ?_) (fun j hj => ?_) (fun v hv => ?_)
  · rw [u8s_length] at this
    exact this
  · have hj : j < (u8s p).length := (List.getElem?_eq_some_iff.1 hv).1
    rw [u8s_length] at hj
    have h1 := hc j (by rw [u8s_length]; omega)
    rw [h1]
    have e : (u8s p)[j]? = (u8s xs)[j]? := by
      rw [hx, u8s_take, List.getElem?_take_of_lt (by omega)]
    rw [e, List.getElem?_eq_getElem (by rw [u8s_length]; omega)] at hv
    exact hv
  · rw [u8s_length] at hj
    rw [ho.1 (o + j) (by omega)]
    rfl
  · rw [u8s_length] at hj
    exact ho.2 (o + j) (by omega)
  · unfold u8s at hv
    obtain ⟨b, _, rfl⟩ := List.mem_map.1 hv
    rfl

theorem Own.liesAt {w : World} {g : Nat} {l : List UInt8} (h : Own w g l) (o : Nat) : Lies w (some ⟨g, o, none⟩) (u8s (l.drop o)) := fun hn => ⟨_, rfl, fun j hj => by
  have hj' : j < (l.drop o).length := by simpa [u8s] using hj
  have hj2 : o + j < l.length := by simp at hj'; omega
  have := h.1 (o + j) hj2
  simp only [u8s, List.getElem_map, List.getElem_drop]
  rw [← this]
  congr 1
  unfold Addr.add
  split
  · next e => subst e; rfl
  · simp⟩

theorem load1_any {w : World} {s m P T : Nat} {G : Pgs} (h : IsSp w s m P T G) (bs br gb : Nat) (hbs : w.cell? ⟨bs, 0, none⟩ = some (.pointer (some ⟨s, 0, none⟩)))
    (pre : List UInt8) (d r r' : Nat) (hd : pre.length = d) (hbr : w.cell? ⟨br, 0, none⟩ = some (.slice (some ⟨gb, d, none⟩) r r)) (hfr : w.frozen? ⟨br, 0, none⟩ = false)
    (ho : Own w gb (pre ++ List.replicate r 0)) (k f c : Nat) (hk : k < P) (hc : 0 < c) (hcr : r = c + r') (hf : f + c ≤ 4096) (n1 : gb ≠ br) (n2 : bs ≠ br) (n3 : bs ≠ gb) (n4 : ¬ Mine s m G gb) (n5 : ¬ Mine s m G br) :
    Calls Try.prog 45 #[keyV k, .int .u64 (f : Int), .int .u64 ((f + c : Nat) : Int), .pointer (some ⟨bs, 0, none⟩), .pointer (some ⟨br, 0, none⟩)] w
      fun e w' => e = .returned (.tuple #[]) ∧ ∃ A, w'.cell? ⟨br, 0, none⟩ = some (.slice A r' r') ∧ (0 < r' → A = some ⟨gb, d + c, none⟩) ∧ w'.frozen? ⟨br, 0, none⟩ = false ∧
        Own w' gb ((pre ++ M.rd (bytesOf G) (k * 4096 + f) c) ++ List.replicate r' 0) ∧ Kept w w' (fun b => b = gb ∨ b = br) := by
  have hkey : ∃ ka kb : Int, keyV k = .agg #[.int .i64 ka, .int .i64 kb] := ⟨_, _, rfl⟩
  obtain ⟨ka, kb, hkv⟩ := hkey
  rw [hkv]
  have hgl := ho.lt (by simp; omega)
  have hbl := lt_of_cell hbr
  obtain ⟨t, ht⟩ : ∃ t, t = f + c := ⟨_, rfl⟩
  rw [← ht]
  have HT := Lib.hid ht; clear ht
  have c1 := h.c1
  have hslt := h.slt
  have hbsl := lt_of_cell hbs
  have HH := Lib.hid h
  have HO := Lib.hid ho
  have HN := Lib.hid (show gb ≠ br ∧ bs ≠ br ∧ bs ≠ gb ∧ ¬ Mine s m G gb ∧ ¬ Mine s m G br from ⟨n1, n2, n3, n4, n5⟩)
  clear n1 n2 n3 n4 n5 ho
  go_enter Try.func45, Try.ntmps45
  go_wp2_with fail
  have hk0 := (World.cell?_alloc_mark w #[.int .i64 ka, .int .i64 kb] 90 (0, 0) 0)
  have hk1 := (World.cell?_alloc_mark w #[.int .i64 ka, .int .i64 kb] 90 (0, 0) 1)
  have K1 := Lib.hid ((Kept.refl w (fun b => b = gb ∨ b = br)).alloc (.cells #[.int .i64 ka, .int .i64 kb] 90))
  have h1 := h.alloc (.cells #[.int .i64 ka, .int .i64 kb] 90)
  have o1 := HO.out.alloc hgl (.cells #[.int .i64 ka, .int .i64 kb] 90)
  have b1 := K1.out.cell_some hbs (by have := HN.out; simp; omega)
  have b2 := (World.cell?_alloc_lt w (.cells #[.int .i64 ka, .int .i64 kb] 90) ⟨br, 0, none⟩ hbl).trans hbr
  have b3 := (World.frozen?_of_block (w := w) (w' := w.alloc (.cells #[.int .i64 ka, .int .i64 kb] 90)) (a := ⟨br, 0, none⟩) (Below.heap_alloc w _ br hbl)).trans hfr
  generalize hw1 : w.alloc (.cells #[.int .i64 ka, .int .i64 kb] 90) = w1 at hk0 hk1 K1 h1 o1 b1 b2 b3 ⊢
  clear hw1 c1
  have c1 := h1.c1
  have H1 := Lib.hid h1
  have O1 := Lib.hid o1
  clear h hbs hbr hfr h1 o1
  obtain ⟨A', hcut, _, hadd, _⟩ := cut_u (some ⟨gb, d, none⟩) r r c (by omega) (Nat.le_refl _)
  have hrc : r - c = r' := by omega
  rw [hrc] at hcut
  have HA := Lib.hid (fun (h : c < r) => (hadd _ h rfl).trans (by show some ((⟨gb, d, none⟩ : Addr).add c) = some ⟨gb, d + c, none⟩; unfold Addr.add; split <;> simp_all))
  have hsub : IntKind.u64.wrap ((t : Int) - f) = (c : Int) := by have := HT.out; rw [wrapU]; omega
  have HR := Lib.hid (show r = c + r' ∧ pre.length = d from ⟨hcr, hd⟩)
  clear hrc hadd hcr hd
  rcases hG : G k with _ | ⟨g, l⟩
  · have hl := fun q => (H1.out.drewN q).look_no k hk hG
    rw [hkv] at hl
    have hz := M.rd_none (fun j => (G j).map (·.2)) k f c hf (by simp [hG])
    have HZ := Lib.hid hz
    have HG := Lib.hid hG
    clear hz hG hkv
    go_quiet (fail)
    go_wp2_with fail
    go_end0
    refine ⟨rfl, A', World.cell?_setCell_same _ _ _ b2, fun h => HA.out (by have := HR.out; omega), (World.frozen?_setCell _ _ _ _).trans b3, ?_, (K1.out.drewN nq).setCell (p := ⟨br, 0, none⟩) (fun _ => Or.inr rfl) _⟩
    have hz := HZ.out
    unfold bytesOf
    rw [hz, List.append_assoc, List.replicate_append_replicate, ← HR.out.1]
    exact O1.out.keep (Below.heap_setCell _ _ _ _ (by have := HN.out.1; exact this))
  · obtain ⟨pc, hpc, hl⟩ := H1.out.look k g l hG
    have hpg := H1.out.page k g l hG
    have hl' := fun q => (hl (w1.drewN q) rfl).1
    have hz := M.rd_some (fun j => (G j).map (·.2)) k f c l hpg.2.2.1 hf (by simp [hG])
    rw [hkv] at hl'
    have HZ := Lib.hid hz
    have HG := Lib.hid hG
    have HP := Lib.hid hpg
    clear hz hG hkv hpg hl
    have hcp := fun W => cut_page W g pc f t hpc (by have := HT.out; omega) (by have := HT.out; omega)
    have htf : t - f = c := by have := HT.out; omega
    rw [htf] at hcp
    clear htf
    go_quiet (fail)
    go_wp2_with fail
    refine still_tail 5 (by kernel_rfl) (by kernel_rfl) (fun w3 hw3 => ?_)
    have b2' : w3.cell? ⟨br, 0, none⟩ = some (.slice (some ⟨gb, d, none⟩) r r) := by rw [hw3]; exact b2
    have b3' : w3.frozen? ⟨br, 0, none⟩ = false := by rw [hw3]; exact b3
    have o3 : Own w3 gb (pre ++ List.replicate r 0) := by rw [hw3]; exact O1.out
    have p3 : Own w3 g l := by rw [hw3]; exact HP.out.2.1
    have hpl : ((l.drop f).take c).length = c := by have := HP.out.2.2.1; simp; omega
    have hco := fun ty => copy_own w3 gb d r r _ o3 (some ⟨g, f, none⟩) c (pc - f) (l.drop f) ((l.drop f).take c) (by have := HR.out; rw [hpl]; omega) (by have := HR.out; rw [hpl]; simp; omega) (p3.liesAt f) (by rw [hpl]) (by rw [hpl]; exact hc) ty
    rw [hpl] at hco
    have K3 : Kept w w3 (fun b => b = gb ∨ b = br) := by rw [hw3]; exact (K1.out.drewN nq).drew
    have K3 := Lib.hid K3
    have O3 := Lib.hid (o3.setCells d ((l.drop f).take c) (by have := HR.out; rw [hpl]; simp; omega))
    have hb4 : (w3.setCells gb d (u8s ((l.drop f).take c))).cell? ⟨br, 0, none⟩ = some (.slice (some ⟨gb, d, none⟩) r r) :=
      (World.cell?_setCells_out _ _ _ _ _ (fun e _ => absurd e (fun e => HN.out.1 e.symm))).trans b2'
    have hf4 : (w3.setCells gb d (u8s ((l.drop f).take c))).frozen? ⟨br, 0, none⟩ = false := (World.frozen?_setCells _ _ _ _ _).trans b3'
    have HL := Lib.hid hpl
    clear hpl hw3 o3 p3 hk0 hk1 b1 b2 b3 c1 hl' b3'
    simp only [List.take_succ_cons, List.take_zero, List.drop_succ_cons, List.drop_zero]
    repeat still_step
    refine wpStill_nil ?_
    go_wp2_with fail
    go_end0
    refine ⟨rfl, A', World.cell?_setCell_same _ _ _ hb4, fun h => HA.out (by have := HR.out; omega), (World.frozen?_setCell _ _ _ _).trans hf4, ?_, (K3.out.setCells (g := gb) (fun _ => Or.inl rfl) _ _).setCell (p := ⟨br, 0, none⟩) (fun _ => Or.inr rfl) _⟩
    have hz := HZ.out
    unfold bytesOf
    rw [hz]
    have e : M.splice (pre ++ List.replicate r 0) d ((l.drop f).take c) = pre ++ (l.drop f).take c ++ List.replicate r' 0 := by
      exact splice_fill pre _ d r r' HR.out.2 (by have := HR.out.1; rw [HL.out]; exact this)
    rw [← e]
    exact O3.out.keep (Below.heap_setCell _ _ _ _ (by have := HN.out.1; exact this))
end Go.Proofs.Ytacognejefeboaa
