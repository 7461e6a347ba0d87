/-
  Layer 9 (follow): begun: a search that knows but what the right sides show, and that the end stands behind the start.
-/
import Derived.Test.YtdocbgfpnaiijaaGreatFoLook
import Derived.Test.YtdocbgfpnaiijaaGreatFiSettled
import Derived.Test.YtdocbgfpnaiijaaGreatNlOfs
import Derived.Test.YtdocbgfpnaiijaaGreatSplitLib
namespace Go.Proofs.YtdocbgfpnaiijaaGreat
open Go.RowKit Go.Conc

theorem make_chanF (z : Int) (n : Nat) (e : z = n) (h : n ≤ 100000) (W : World) : (Instr.makeChan 55 (.int .i64 z)).run Tryz.prog W = .ok (.chan (some W.heap.size)) (W.alloc (.chan n #[] false 0 0 false)) := by
  subst e
  have hinfo : (Tryz.prog.info? 77).map (fun i => (i.zero, i.size, i.bytes)) = some (some (.agg #[.int .i64 0, .int .i64 0]), 2, 16) := by kernel_rfl
  obtain ⟨iA, hi, hz0, hz1, hz2⟩ := info_parts hinfo
  exact run_makeChan (P := Tryz.prog) (w := W) Tryz.underlying55 hi .i64 n (by omega) (by rw [hz2]; omega)

theorem gset7 {w : World} {b : Nat} {p0 p1 p2 p3 p4 p5 p6 x0 x1 x2 x3 x4 x5 x6 : Value} {ty : TypeId} (h : w.heap[b]? = some (.cells #[p0, p1, p2, p3, p4, p5, p6] ty (0, 0))) : (((((((w.setCell ⟨b, 0, none⟩ x0).setCell ⟨b, 1, none⟩ x1).setCell ⟨b, 2, none⟩ x2).setCell ⟨b, 3, none⟩ x3).setCell ⟨b, 4, none⟩ x4).setCell ⟨b, 5, none⟩ x5).setCell ⟨b, 6, none⟩ x6).heap[b]? = some (.cells #[x0, x1, x2, x3, x4, x5, x6] ty (0, 0)) := by
  simp [World.setCell, Array.getElem?_modify, h]

theorem slice_tailI (b o len cap k : Nat) (h : k ≤ len) (W : World) : (Instr.slice 31 (.slice (some ⟨b, o, none⟩) len cap) (some (.int .i64 (k : Int))) none none).run Tryz.prog W = .ok (.slice (if cap = k then some ⟨b, o, none⟩ else some ⟨b, o + k, none⟩) (len - k) (cap - k)) W := by
  have ht : Tryz.prog.underlying 31 = some (.slice (Tryz.prog.elem 31)) := by kernel_rfl
  have he : (sizeOf (Tryz.prog.elem 31)).run Tryz.prog W = .ok 1 W := by kernel_rfl
  rw [run_slice_l W 31 _ _ _ ht .i64 _ (by omega) (by omega), he]
  simp only [Result.andThen_ok, sliced, Int.toNat_natCast, Nat.mul_one, Option.map_some]
  split
  · rfl
  · simp [Addr.add]

theorem wp_slice_tail {o : Oper} {a : Act} {w : World} {K : Act → World → Prop} {Q : Exit → Act → World → Prop} (x y : Operand) (ho : o.op = .slice 31 x (some y) none none) (v u r : Value) (hx : a.eval x = v) (hy : a.eval y = u) (hr : (Instr.slice 31 v (some u) none none).run Tryz.prog w = .ok r w) (h : K (a.put o.dst r) w) : o.wp Tryz.prog a w K Q := by
  have ht : Tryz.prog.underlying 31 = some (.slice (Tryz.prog.elem 31)) := by kernel_rfl
  have hss := fun x lo hi mx => run_sliceAt_slice (P := Tryz.prog) w 31 x lo hi mx ht
  unfold Oper.wp execOp
  simp only [ho, Sem.run_bind, Sem.run_pure, hss, Result.andThen_ok, Option.map_some, Option.map_none, hx, hy, hr]
  exact h

/-- behind the making of the search -/
structure FoMade (g : Gr.Gm) (A : GA) (n : Nat) (no fo : Option Addr) (nnc fc H S C b : Nat) (w W : World) : Prop where
  below : Below w.heap.size w W
  lt : w.heap.size + 2 ≤ H ∧ w.heap.size + 2 ≤ S ∧ w.heap.size + 2 ≤ C ∧ w.heap.size + 2 ≤ b
  gb : W.heap[w.heap.size]? = some (.cells #[.slice A.ta g.terms.length A.tc, .slice A.na g.names.length A.nc, .slice A.ra g.rules.length A.rc] 25 (0, 0))
  rb : W.heap[w.heap.size + 1]? = some (.cells #[.int .i64 0, .int .i64 0, .slice none 0 0, .slice none 0 0, .slice none 0 0, .slice none 0 0, .chan none] 57 (0, 0))
  sb : W.heap[b]? = some (.cells (foCells g.terms.length n no fo nnc fc H S C g.names.length) 57 (0, 0))
  nul : BoolsAt W.heap.size W no (Nl.of g)
  fst : OwnRows 0 W (.slice fo n fc) (Fi.setsG g)
  apart : ∀ b o, fo = some ⟨b, o, none⟩ → b ≠ H
  hb : W.heap[H]? = some (.cells (Array.replicate g.names.length (Value.slice none 0 0)) 31 (0, 0))
  ssb : W.heap[S]? = some (.cells (Array.replicate g.names.length (Value.slice none 0 0)) 35 (0, 0))
  ch : W.heap[C]? = some (.chan (g.names.length * (g.terms.length + 1)) #[] false 0 0 false)

theorem fomade_set {g : Gr.Gm} {ta na ra : Option Addr} {tc nc rac n nnc fc H S C b : Nat} {no fo : Option Addr} {w w1 : World} (hlt : w.heap.size + 2 ≤ H ∧ w.heap.size + 2 ≤ S ∧ w.heap.size + 2 ≤ C) (i1 : BoolsAt w1.heap.size w1 no (Nl.of g)) (i2 : OwnRows 0 w1 (.slice fo n fc) (Fi.setsG g)) (i3 : w1.heap[H]? = some (.cells (Array.replicate g.names.length (Value.slice none 0 0)) 31 (0, 0))) (i5 : w1.heap[S]? = some (.cells (Array.replicate g.names.length (Value.slice none 0 0)) 35 (0, 0))) (i7 : w1.heap[C]? = some (.chan (g.names.length * (g.terms.length + 1)) #[] false 0 0 false)) (AP : ∀ b o, fo = some ⟨b, o, none⟩ → b ≠ H) (hbM : w.heap.size + 2 ≤ b) (hbk : w1.heap[b]? = some (.cells #[.int .i64 0, .int .i64 0, .slice none 0 0, .slice none 0 0, .slice none 0 0, .slice none 0 0, .chan none] 57 (0, 0)))
    (hb : Below w.heap.size w w1) (hg : w1.heap[w.heap.size]? = some (.cells #[.slice ta g.terms.length tc, .slice na g.names.length nc, .slice ra g.rules.length rac] 25 (0, 0))) (hr : w1.heap[w.heap.size + 1]? = some (.cells #[.int .i64 0, .int .i64 0, .slice none 0 0, .slice none 0 0, .slice none 0 0, .slice none 0 0, .chan none] 57 (0, 0))) :
    FoMade g ⟨ta, tc, na, nc, ra, rac⟩ n no fo nnc fc H S C b w (((((((w1.setCell ⟨b, 0, none⟩ (.int .i64 (g.terms.length : Int))).setCell ⟨b, 1, none⟩ (.int .i64 (n : Int))).setCell ⟨b, 2, none⟩ (.slice no n nnc)).setCell ⟨b, 3, none⟩ (.slice fo n fc)).setCell ⟨b, 4, none⟩ (.slice (some ⟨H, 0, none⟩) g.names.length g.names.length)).setCell ⟨b, 5, none⟩ (.slice (some ⟨S, 0, none⟩) g.names.length g.names.length)).setCell ⟨b, 6, none⟩ (.chan (some C))) := by
  have hs : ∀ k, k ≠ b → (((((((w1.setCell ⟨b, 0, none⟩ (.int .i64 (g.terms.length : Int))).setCell ⟨b, 1, none⟩ (.int .i64 (n : Int))).setCell ⟨b, 2, none⟩ (.slice no n nnc)).setCell ⟨b, 3, none⟩ (.slice fo n fc)).setCell ⟨b, 4, none⟩ (.slice (some ⟨H, 0, none⟩) g.names.length g.names.length)).setCell ⟨b, 5, none⟩ (.slice (some ⟨S, 0, none⟩) g.names.length g.names.length)).setCell ⟨b, 6, none⟩ (.chan (some C))).heap[k]? = w1.heap[k]? := fun k hk => by
    rw [Below.heap_setCell _ _ _ _ hk, Below.heap_setCell _ _ _ _ hk, Below.heap_setCell _ _ _ _ hk, Below.heap_setCell _ _ _ _ hk, Below.heap_setCell _ _ _ _ hk, Below.heap_setCell _ _ _ _ hk, Below.heap_setCell _ _ _ _ hk]
  have nH : H ≠ b := fun e => by
    subst e; rw [i3] at hbk
    exact absurd (Obj.cells.inj (Option.some.inj hbk)).2.1 (by decide)
  have nS : S ≠ b := fun e => by
    subst e; rw [i5] at hbk
    exact absurd (Obj.cells.inj (Option.some.inj hbk)).2.1 (by decide)
  have nC : C ≠ b := fun e => by
    subst e; rw [i7] at hbk; cases hbk
  have hb' : ∀ {V : World} (u : Nat) (v : Value), Below w.heap.size w V → Below w.heap.size w (V.setCell ⟨b, u, none⟩ v) := fun u v h => h.setCell (by show w.heap.size ≤ b; omega) _
  refine ⟨hb' _ _ (hb' _ _ (hb' _ _ (hb' _ _ (hb' _ _ (hb' _ _ (hb' _ _ hb)))))), ⟨hlt.1, hlt.2.1, hlt.2.2, hbM⟩, ?_, ?_, gset7 hbk, ?_, ?_, AP, (hs _ nH).trans i3, (hs _ nS).trans i5, (hs _ nC).trans i7⟩
  · rw [hs _ (by omega)]; exact hg
  · rw [hs _ (by omega)]; exact hr
  · refine BoolsAt.size (BoolsAt.keep i1 (by simp only [size_setCell]; exact Nat.le_refl _) fun k o y _ hc => hs k fun e => ?_)
    subst e
    have := cell_in hbk hc
    simp at this
  · exact i2.but hbk (by decide) (by decide) fun k _ hk => hs k hk

/-- a search that has been begun -/
structure FoS (g : Gr.Gm) (n : Nat) (H S C : Nat) (Bs : List Nat) (vs : List Value) (hs : List (List Int)) (st : Fi.St) (w w' : World) : Prop where
  below : Below w.heap.size w w'
  lt : w.heap.size ≤ C ∧ ∀ b ∈ Bs, w.heap.size ≤ b
  hei : LAt w.heap.size H vs hs w'
  heirs : Fo.Heirs g.rules (Nl.of g) g.terms.length g.names.length hs
  small : ∀ a : Nat, (hs.getD a []).length ≤ 480
  at' : GAt S C (n + 1) (g.names.length * (g.terms.length + 1)) Bs st w'
  inv : Fo.Inv g.rules (Nl.of g) g.terms.length n g.names.length (fun _ _ _ => False) st

set_option maxRecDepth 100000 in
set_option maxHeartbeats 12800000 in
theorem fobegun_any (g : Gr.Gm) (A : GA) (n : Nat) (w : World) (hn : g.terms.length + g.names.length = n) (hg : Gr.good g = true) (hm : ∀ x ∈ g.rules, x.2.length ≤ maxLen) (h : GmAt w.heap.size w g A) :
    Calls Tryz.prog 51 #[.agg (gmCells g A)] w fun e w' => ∃ no fo nnc fc H S C, e = .returned (.agg (foCells g.terms.length n no fo nnc fc H S C g.names.length)) ∧ ∃ Bs vs hs st, Hid (FoS g n H S C Bs vs hs st w w') := by
  obtain ⟨ta, tc, na, nc, ra, rac⟩ := A
  have HG : Hid (GmAt w.heap.size w g ⟨ta, tc, na, nc, ra, rac⟩) := h
  have HM : Hid _ := hm
  obtain ⟨hsz, h8⟩ := Nl.sizes_of hg
  have HF0 := Nl.fit_of hg
  rw [hn] at HF0
  have HF : Hid (Nl.Fit g.terms.length n g.rules) := HF0
  have H8 : Hid _ := h8
  have hnI : (g.terms.length : Int) + (g.names.length : Int) = (n : Int) := by omega
  have hlen : (Nl.of g).length = n := by rw [Nl.of_len hg, hn]
  have hfl : (Fi.setsG g).length = n := by rw [Fi.setsG_len hg, hn]
  have HLN : Hid _ := hlen
  have HFL : Hid _ := hfl
  have HN0 : Hid (0 < g.names.length) := by show 0 < _; omega
  have hnT : g.names.length * (g.terms.length + 1) ≤ 40 * 41 := Nat.mul_le_mul (by omega) (by omega)
  have HNT : Hid _ := hnT
  have hml := make_rowsI (g.names.length : Int) g.names.length rfl (by omega)
  have hmb := make_rowsB (g.names.length : Int) g.names.length rfl (by omega)
  have hmc := make_chanF ((g.names.length : Int) * ((g.terms.length : Int) + 1)) (g.names.length * (g.terms.length + 1)) (by simp) (by omega)
  have hwm : IntKind.wrap .i64 ((g.names.length : Int) * ((g.terms.length : Int) + 1)) = (g.names.length : Int) * ((g.terms.length : Int) + 1) := by
    have e : (g.names.length : Int) * ((g.terms.length : Int) + 1) = ((g.names.length * (g.terms.length + 1) : Nat) : Int) := by simp
    rw [e, IntKind.wrap_i64]; omega
  have hwt : IntKind.wrap .i64 ((g.terms.length : Int) + 1) = (g.terms.length : Int) + 1 := by rw [IntKind.wrap_i64]; omega
  have hwn : IntKind.wrap .i64 ((n : Int) + 1) = (n : Int) + 1 := by rw [IntKind.wrap_i64]; omega
  have hwn2 : IntKind.wrap .i64 (n : Int) = (n : Int) := by rw [IntKind.wrap_i64]; omega
  have hws : IntKind.wrap .i64 ((g.terms.length : Int) + (g.names.length : Int)) = (n : Int) := by rw [hnI, IntKind.wrap_i64]; omega
  have HOF : Hid (∀ W : World, Below w.heap.size w W → Calls Tryz.prog 36 #[.agg (gmCells g ⟨ta, tc, na, nc, ra, rac⟩)] W fun e w' => ∃ ao c, e = .returned (.slice ao (Nl.of g).length c) ∧ Hid (BoolsAt w'.heap.size w' ao (Nl.of g)) ∧ Hid (Below W.heap.size W w')) := fun W hW => nof_is g _ W HM.out (HG.out.next hW)
  have HFS : Hid (∀ W : World, Below w.heap.size w W → Calls Tryz.prog 83 #[.agg (gmCells g ⟨ta, tc, na, nc, ra, rac⟩)] W fun e w' => ∃ xo xc, e = .returned (.slice xo (Fi.setsG g).length xc) ∧ Hid (OwnRows W.heap.size w' (.slice xo (Fi.setsG g).length xc) (Fi.setsG g)) ∧ Hid (Below W.heap.size W w')) := fun W hW => fsets_own g _ W HM.out (HG.out.next hW)
  clear h hm h8 HF0
  simp only [gmCells] at HOF HFS ⊢
  rw [hlen] at HOF
  rw [hfl] at HFS
  have hB : Hid (Below w.heap.size w ((w.alloc (Obj.cells #[.slice ta g.terms.length tc, .slice na g.names.length nc, .slice ra g.rules.length rac] 25)).alloc (Obj.cells #[.int .i64 0, .int .i64 0, .slice none 0 0, .slice none 0 0, .slice none 0 0, .slice none 0 0, .chan none] 57))) := ((Below.refl _ w).alloc (Nat.le_refl _) _).alloc (by simp) _
  have b0 : Hid (((w.alloc (Obj.cells #[.slice ta g.terms.length tc, .slice na g.names.length nc, .slice ra g.rules.length rac] 25)).alloc (Obj.cells #[.int .i64 0, .int .i64 0, .slice none 0 0, .slice none 0 0, .slice none 0 0, .slice none 0 0, .chan none] 57)).heap[w.heap.size]? = some (.cells #[.slice ta g.terms.length tc, .slice na g.names.length nc, .slice ra g.rules.length rac] 25 (0, 0))) := by
    show _ = _; rw [Below.heap_alloc _ _ _ (by simp)]; exact heap_alloc_new w _
  have b1 : Hid (((w.alloc (Obj.cells #[.slice ta g.terms.length tc, .slice na g.names.length nc, .slice ra g.rules.length rac] 25)).alloc (Obj.cells #[.int .i64 0, .int .i64 0, .slice none 0 0, .slice none 0 0, .slice none 0 0, .slice none 0 0, .chan none] 57)).heap[w.heap.size + 1]? = some (.cells #[.int .i64 0, .int .i64 0, .slice none 0 0, .slice none 0 0, .slice none 0 0, .slice none 0 0, .chan none] 57 (0, 0))) := by
    show _ = _
    have := heap_alloc_new (w.alloc (Obj.cells #[.slice ta g.terms.length tc, .slice na g.names.length nc, .slice ra g.rules.length rac] 25)) (Obj.cells #[.int .i64 0, .int .i64 0, .slice none 0 0, .slice none 0 0, .slice none 0 0, .slice none 0 0, .chan none] 57)
    simpa using this
  have hWs : Hid (((w.alloc (Obj.cells #[.slice ta g.terms.length tc, .slice na g.names.length nc, .slice ra g.rules.length rac] 25)).alloc (Obj.cells #[.int .i64 0, .int .i64 0, .slice none 0 0, .slice none 0 0, .slice none 0 0, .slice none 0 0, .chan none] 57)).heap.size = w.heap.size + 2) := by show _ = _; simp
  go_enter Tryz.func51, Tryz.ntmps51
  go_upto_region 1 with fail
  generalize ((w.alloc (Obj.cells #[.slice ta g.terms.length tc, .slice na g.names.length nc, .slice ra g.rules.length rac] 25)).alloc (Obj.cells #[.int .i64 0, .int .i64 0, .slice none 0 0, .slice none 0 0, .slice none 0 0, .slice none 0 0, .chan none] 57)) = W at *
  have HS : Hid (∀ w1 : World, Lat W.drew w1 → Below w.heap.size w w1 ∧ w.heap.size + 2 ≤ w1.heap.size ∧ Below W.heap.size W w1) := fun w1 hL => by
    have h := hL.of_drew
    exact ⟨hB.out.trans (Below.mono h hB.out.size), by have := h.size; rw [hWs.out] at this; exact this, h⟩
  have HC : Hid (∀ w1 : World, Lat W.drew w1 → w1.cell? ⟨w.heap.size, 0, none⟩ = some (.slice ta g.terms.length tc) ∧ w1.cell? ⟨w.heap.size, 1, none⟩ = some (.slice na g.names.length nc) ∧ w1.cell? ⟨w.heap.size, 2, none⟩ = some (.slice ra g.rules.length rac)) := fun w1 hL => by
    have h := cells_three_z (((HS.out w1 hL).2.2.block _ (by rw [hWs.out]; omega)).trans b0.out)
    exact ⟨h.1, h.2.1, h.2.2.1⟩
  refine wp_region_lat [.val (.pointer (some ⟨w.heap.size, 0, none⟩)), .val (.slice ta g.terms.length tc), .val (.int .i64 (g.terms.length : Int)), .val (.pointer (some ⟨w.heap.size, 1, none⟩)), .val (.slice na g.names.length nc), .val (.int .i64 (g.names.length : Int)), .val (.int .i64 (g.terms.length : Int)), .val (.int .i64 (g.names.length : Int))] [] (by kernel_rfl) (by kernel_rfl) rfl ?kept1 ?walk1
  case kept1 => exact trivial
  case walk1 =>
    refine wpFacts_val (by rfl) (fun w1 hL hd K hK => ?_) ?_
    · go_simp
      exact hK _ (Lat.refl _)
    refine wpFacts_norm (by simp only [Act.put, List.setIfInBounds_toArray, List.set_cons_zero, List.set_cons_succ]; rfl) (by simp only [List.nil_append]; rfl) ?_
    refine wpFacts_val (by rfl) (fun w1 hL hd K hK => ?_) ?_
    · obtain ⟨c0, c1, c2⟩ := HC.out w1 hL
      go_simp
      exact hK _ (Lat.refl _)
    refine wpFacts_norm (by simp only [Act.put, List.setIfInBounds_toArray, List.set_cons_zero, List.set_cons_succ]; rfl) (by simp only [List.cons_append, List.nil_append]; rfl) ?_
    refine wpFacts_val (by rfl) (fun w1 hL hd K hK => ?_) ?_
    · go_simp
      exact hK _ (Lat.refl _)
    refine wpFacts_norm (by simp only [Act.put, List.setIfInBounds_toArray, List.set_cons_zero, List.set_cons_succ]; rfl) (by simp only [List.cons_append, List.nil_append]; rfl) ?_
    refine wpFacts_val (by rfl) (fun w1 hL hd K hK => ?_) ?_
    · go_simp
      exact hK _ (Lat.refl _)
    refine wpFacts_norm (by simp only [Act.put, List.setIfInBounds_toArray, List.set_cons_zero, List.set_cons_succ]; rfl) (by simp only [List.cons_append, List.nil_append]; rfl) ?_
    refine wpFacts_val (by rfl) (fun w1 hL hd K hK => ?_) ?_
    · obtain ⟨c0, c1, c2⟩ := HC.out w1 hL
      go_simp
      exact hK _ (Lat.refl _)
    refine wpFacts_norm (by simp only [Act.put, List.setIfInBounds_toArray, List.set_cons_zero, List.set_cons_succ]; rfl) (by simp only [List.cons_append, List.nil_append]; rfl) ?_
    refine wpFacts_val (by rfl) (fun w1 hL hd K hK => ?_) ?_
    · go_simp
      exact hK _ (Lat.refl _)
    refine wpFacts_norm (by simp only [Act.put, List.setIfInBounds_toArray, List.set_cons_zero, List.set_cons_succ]; rfl) (by simp only [List.cons_append, List.nil_append]; rfl) ?_
    refine wpFacts_val (by rfl) (fun w1 hL hd K hK => ?_) ?_
    · go_simp
      exact hK _ (Lat.refl _)
    refine wpFacts_norm (by simp only [Act.put, List.setIfInBounds_toArray, List.set_cons_zero, List.set_cons_succ]; rfl) (by simp only [List.cons_append, List.nil_append]; rfl) ?_
    refine wpFacts_val (by rfl) (fun w1 hL hd K hK => ?_) ?_
    · go_simp
      exact hK _ (Lat.refl _)
    refine wpFacts_norm (by simp only [Act.put, List.setIfInBounds_toArray, List.set_cons_zero, List.set_cons_succ]; rfl) (by simp only [List.cons_append, List.nil_append]; rfl) ?_
    intro W1 hL1 ha
    clear ha
    have HS1 : Hid (∀ w1 : World, Lat W1.drew w1 → Below w.heap.size w w1 ∧ w.heap.size + 2 ≤ w1.heap.size ∧ Below W.heap.size W w1) := fun w1 hL => HS.out w1 (hL1.trans hL.of_drew)
    have HC1 : Hid (∀ w1 : World, Lat W1.drew w1 → w1.cell? ⟨w.heap.size, 0, none⟩ = some (.slice ta g.terms.length tc) ∧ w1.cell? ⟨w.heap.size, 1, none⟩ = some (.slice na g.names.length nc) ∧ w1.cell? ⟨w.heap.size, 2, none⟩ = some (.slice ra g.rules.length rac)) := fun w1 hL => HC.out w1 (hL1.trans hL.of_drew)
    clear HS HC hL1
    go_upto_region 2 with fail
    refine wp_region_split2 7 (by decide) (by kernel_rfl) (by kernel_rfl) ?h1 ?h2
    case h1 =>
      simp only [addEdge]
      refine wpAny_lat [.val (.int .i64 (g.terms.length : Int)), .val (.int .i64 (g.terms.length : Int)), .val (.int .i64 (g.names.length : Int)), .val (.int .i64 (n : Int)), .val (.agg #[.slice ta g.terms.length tc, .slice na g.names.length nc, .slice ra g.rules.length rac]), .fact (fun v w' => ∃ no nnc, v = .slice no n nnc ∧ BoolsAt w'.heap.size w' no (Nl.of g)), .val (.agg #[.slice ta g.terms.length tc, .slice na g.names.length nc, .slice ra g.rules.length rac]), .fact (fun v w' => ∃ fo fc, v = .slice fo n fc ∧ OwnRows 0 w' (.slice fo n fc) (Fi.setsG g)), .val (.int .i64 (g.names.length : Int)), .rel (fun vf v w' => ∃ H, v = .slice (some ⟨H, 0, none⟩) g.names.length g.names.length ∧ w.heap.size + 2 ≤ H ∧ w'.heap[H]? = some (.cells (Array.replicate g.names.length (Value.slice none 0 0)) 31 (0, 0)) ∧ ∀ b o l c, vf 7 = .slice (some ⟨b, o, none⟩) l c → b ≠ H), .val (.int .i64 (g.names.length : Int)), .fact (fun v w' => ∃ S, v = .slice (some ⟨S, 0, none⟩) g.names.length g.names.length ∧ w.heap.size + 2 ≤ S ∧ w'.heap[S]? = some (.cells (Array.replicate g.names.length (Value.slice none 0 0)) 35 (0, 0))), .val (.int .i64 (g.names.length : Int)), .val (.int .i64 (g.terms.length : Int)), .val (.int .i64 ((g.terms.length : Int) + 1)), .val (.int .i64 ((g.names.length : Int) * ((g.terms.length : Int) + 1))), .fact (fun v w' => ∃ C, v = .chan (some C) ∧ w.heap.size + 2 ≤ C ∧ w'.heap[C]? = some (.chan (g.names.length * (g.terms.length + 1)) #[] false 0 0 false)), .fact (fun v w' => ∃ no fo nnc fc H S C, v = .agg (foCells g.terms.length n no fo nnc fc H S C g.names.length) ∧ (w.heap.size + 2 ≤ H ∧ w.heap.size + 2 ≤ S ∧ w.heap.size + 2 ≤ C) ∧ BoolsAt w'.heap.size w' no (Nl.of g) ∧ OwnRows 0 w' (.slice fo n fc) (Fi.setsG g) ∧ w'.heap[H]? = some (.cells (Array.replicate g.names.length (Value.slice none 0 0)) 31 (0, 0)) ∧ w'.heap[S]? = some (.cells (Array.replicate g.names.length (Value.slice none 0 0)) 35 (0, 0)) ∧ w'.heap[C]? = some (.chan (g.names.length * (g.terms.length + 1)) #[] false 0 0 false) ∧ ∀ b o, fo = some ⟨b, o, none⟩ → b ≠ H), .fact (fun v w' => ∃ b, v = .pointer (some ⟨b, 0, none⟩) ∧ w.heap.size + 2 ≤ b ∧ w'.heap[b]? = some (.cells #[.int .i64 0, .int .i64 0, .slice none 0 0, .slice none 0 0, .slice none 0 0, .slice none 0 0, .chan none] 57 (0, 0)))] [] [_] (by kernel_rfl) rfl ?kept ?walk
      case kept =>
        have kp : ∀ {b : Nat} {o : Obj} {w1 w2 : World}, Lat w1 w2 → w1.heap[b]? = some o → w2.heap[b]? = some o := fun hL h => by rw [hL.block _ (Array.getElem?_eq_some_iff.1 h).1]; exact h
        exact ⟨fun v w1 w2 hL ⟨no, c, e, h1⟩ => ⟨no, c, e, h1.next hL⟩, fun v w1 w2 hL ⟨no, c, e, h1⟩ => ⟨no, c, e, h1.below hL⟩, fun vf v w1 w2 hL ⟨I, e, h1, h2, h3⟩ => ⟨I, e, h1, kp hL h2, h3⟩, fun vf vf' v w hv ⟨I, e, h1, h2, h3⟩ => ⟨I, e, h1, h2, by rw [← hv 7 ⟨_, ⟨7, .data⟩, rfl, by simp, rfl, rfl⟩]; exact h3⟩, fun v w1 w2 hL ⟨I, e, h1, h2⟩ => ⟨I, e, h1, kp hL h2⟩, fun v w1 w2 hL ⟨C, e, h1, h2⟩ => ⟨C, e, h1, kp hL h2⟩, fun v w1 w2 hL ⟨no, fo, nnc, fc, H, S, C, e, h1, h2, h2', h3, h4, h5, h6⟩ => ⟨no, fo, nnc, fc, H, S, C, e, h1, h2.next hL, h2'.below hL, kp hL h3, kp hL h4, kp hL h5, h6⟩, fun v w1 w2 hL ⟨b, e, h1, h2⟩ => ⟨b, e, h1, kp hL h2⟩, trivial⟩
      case walk =>
        refine wpFacts_val (by rfl) (fun w1 hL hd K hK => ?_) ?_
        · go_simp
          exact hK _ (Lat.refl _)
        refine wpFacts_norm (by simp only [Act.put, List.setIfInBounds_toArray, List.set_cons_zero, List.set_cons_succ]; rfl) (by simp only [List.nil_append]; rfl) ?_
        refine wpFacts_val (by rfl) (fun w1 hL hd K hK => ?_) ?_
        · go_simp
          exact hK _ (Lat.refl _)
        refine wpFacts_norm (by simp only [Act.put, List.setIfInBounds_toArray, List.set_cons_zero, List.set_cons_succ]; rfl) (by simp only [List.cons_append, List.nil_append]; rfl) ?_
        refine wpFacts_val (by rfl) (fun w1 hL hd K hK => ?_) ?_
        · go_simp
          exact hK _ (Lat.refl _)
        refine wpFacts_norm (by simp only [Act.put, List.setIfInBounds_toArray, List.set_cons_zero, List.set_cons_succ]; rfl) (by simp only [List.cons_append, List.nil_append]; rfl) ?_
        refine wpFacts_val (by rfl) (fun w1 hL hd K hK => ?_) ?_
        · go_simp
          exact hK _ (Lat.refl _)
        refine wpFacts_norm (by simp only [Act.put, List.setIfInBounds_toArray, List.set_cons_zero, List.set_cons_succ]; rfl) (by simp only [List.cons_append, List.nil_append]; rfl) ?_
        refine wpFacts_val (by rfl) (fun w1 hL hd K hK => ?_) ?_
        · obtain ⟨c0, c1, c2⟩ := HC1.out w1 hL
          go_simp
          exact hK _ (Lat.refl _)
        refine wpFacts_norm (by simp only [Act.put, List.setIfInBounds_toArray, List.set_cons_zero, List.set_cons_succ]; rfl) (by simp only [List.cons_append, List.nil_append]; rfl) ?_
        refine wpFacts_fact (by rfl) (fun w1 hL hd K hK => ?_) (fun v1 => ?_)
        · go_simp
          refine Calls.mono (HOF.out w1 (HS1.out w1 hL).1) ?_
          rintro e w9 ⟨bo, bc, rfl, hb8, hb9⟩
          exact hK _ _ hb9.out ⟨bo, bc, rfl, hb8.out⟩
        refine wpFacts_norm (by simp only [Act.put, List.setIfInBounds_toArray, List.set_cons_zero, List.set_cons_succ]; rfl) (by simp only [List.cons_append, List.nil_append]; rfl) ?_
        refine wpFacts_val (by rfl) (fun w1 hL hd K hK => ?_) ?_
        · obtain ⟨c0, c1, c2⟩ := HC1.out w1 hL
          go_simp
          exact hK _ (Lat.refl _)
        refine wpFacts_norm (by simp only [Act.put, List.setIfInBounds_toArray, List.set_cons_zero, List.set_cons_succ]; rfl) (by simp only [List.cons_append, List.nil_append]; rfl) ?_
        refine wpFacts_fact (by rfl) (fun w1 hL hd K hK => ?_) (fun v2 => ?_)
        · go_simp
          refine Calls.mono (HFS.out w1 (HS1.out w1 hL).1) ?_
          rintro e w9 ⟨bo, bc, rfl, hb8, hb9⟩
          exact hK _ _ hb9.out ⟨bo, bc, rfl, hb8.out.from (Nat.zero_le _)⟩
        refine wpFacts_norm (by simp only [Act.put, List.setIfInBounds_toArray, List.set_cons_zero, List.set_cons_succ]; rfl) (by simp only [List.cons_append, List.nil_append]; rfl) ?_
        refine wpFacts_val (by rfl) (fun w1 hL hd K hK => ?_) ?_
        · go_simp
          exact hK _ (Lat.refl _)
        refine wpFacts_norm (by simp only [Act.put, List.setIfInBounds_toArray, List.set_cons_zero, List.set_cons_succ]; rfl) (by simp only [List.cons_append, List.nil_append]; rfl) ?_
        refine wpFacts_rel (by rfl) (fun w1 hL hd K hK => ?_) (fun v3 => ?_)
        · obtain ⟨fo, fc, rfl, i2⟩ : ∃ fo fc, v2 = .slice fo n fc ∧ OwnRows 0 w1 (.slice fo n fc) (Fi.setsG g) := hd.2.2.1
          have APF : Hid (∀ b o l c, Value.slice fo n fc = .slice (some ⟨b, o, none⟩) l c → b < w1.heap.size) := fun b o l c e => i2.lt b (by rw [e]; rfl)
          clear i2
          go_simp
          exact hK _ _ (Below.alloc (Below.refl _ _) (Nat.le_refl _) _) ⟨_, rfl, (HS1.out w1 hL).2.1, heap_alloc_new _ _, fun b o l c e => Nat.ne_of_lt (APF.out b o l c e)⟩
        refine wpFacts_norm (by simp only [Act.put, List.setIfInBounds_toArray, List.set_cons_zero, List.set_cons_succ]; rfl) (by simp only [List.cons_append, List.nil_append]; rfl) ?_
        refine wpFacts_val (by rfl) (fun w1 hL hd K hK => ?_) ?_
        · go_simp
          exact hK _ (Lat.refl _)
        refine wpFacts_norm (by simp only [Act.put, List.setIfInBounds_toArray, List.set_cons_zero, List.set_cons_succ]; rfl) (by simp only [List.cons_append, List.nil_append]; rfl) ?_
        refine wpFacts_fact (by rfl) (fun w1 hL hd K hK => ?_) (fun v5 => ?_)
        · go_simp
          exact hK _ _ (Below.alloc (Below.refl _ _) (Nat.le_refl _) _) ⟨_, rfl, (HS1.out w1 hL).2.1, heap_alloc_new _ _⟩
        refine wpFacts_norm (by simp only [Act.put, List.setIfInBounds_toArray, List.set_cons_zero, List.set_cons_succ]; rfl) (by simp only [List.cons_append, List.nil_append]; rfl) ?_
        refine wpFacts_val (by rfl) (fun w1 hL hd K hK => ?_) ?_
        · go_simp
          exact hK _ (Lat.refl _)
        refine wpFacts_norm (by simp only [Act.put, List.setIfInBounds_toArray, List.set_cons_zero, List.set_cons_succ]; rfl) (by simp only [List.cons_append, List.nil_append]; rfl) ?_
        refine wpFacts_val (by rfl) (fun w1 hL hd K hK => ?_) ?_
        · go_simp
          exact hK _ (Lat.refl _)
        refine wpFacts_norm (by simp only [Act.put, List.setIfInBounds_toArray, List.set_cons_zero, List.set_cons_succ]; rfl) (by simp only [List.cons_append, List.nil_append]; rfl) ?_
        refine wpFacts_val (by rfl) (fun w1 hL hd K hK => ?_) ?_
        · go_simp
          exact hK _ (Lat.refl _)
        refine wpFacts_norm (by simp only [Act.put, List.setIfInBounds_toArray, List.set_cons_zero, List.set_cons_succ]; rfl) (by simp only [List.cons_append, List.nil_append]; rfl) ?_
        refine wpFacts_val (by rfl) (fun w1 hL hd K hK => ?_) ?_
        · go_simp
          exact hK _ (Lat.refl _)
        refine wpFacts_norm (by simp only [Act.put, List.setIfInBounds_toArray, List.set_cons_zero, List.set_cons_succ]; rfl) (by simp only [List.cons_append, List.nil_append]; rfl) ?_
        refine wpFacts_fact (by rfl) (fun w1 hL hd K hK => ?_) (fun v11 => ?_)
        · go_simp
          exact hK _ _ (Below.alloc (Below.refl _ _) (Nat.le_refl _) _) ⟨_, rfl, (HS1.out w1 hL).2.1, heap_alloc_new _ _⟩
        refine wpFacts_norm (by simp only [Act.put, List.setIfInBounds_toArray, List.set_cons_zero, List.set_cons_succ]; rfl) (by simp only [List.cons_append, List.nil_append]; rfl) ?_
        refine wpFacts_fact (by rfl) (fun w1 hL hd K hK => ?_) (fun v12 => ?_)
        · obtain ⟨no, nnc, rfl, i1⟩ : ∃ no nnc, v1 = .slice no n nnc ∧ BoolsAt w1.heap.size w1 no (Nl.of g) := hd.2.2.1
          obtain ⟨fo, fc, rfl, i2⟩ : ∃ fo fc, v2 = .slice fo n fc ∧ OwnRows 0 w1 (.slice fo n fc) (Fi.setsG g) := hd.2.2.2.1
          obtain ⟨H, rfl, j1, i3, ap⟩ : ∃ H, v3 = .slice (some ⟨H, 0, none⟩) g.names.length g.names.length ∧ w.heap.size + 2 ≤ H ∧ w1.heap[H]? = some (.cells (Array.replicate g.names.length (Value.slice none 0 0)) 31 (0, 0)) ∧ ∀ b o l c, Value.slice fo n fc = .slice (some ⟨b, o, none⟩) l c → b ≠ H := hd.2.2.2.2.1
          have AP : Hid (∀ b o, fo = some ⟨b, o, none⟩ → b ≠ H) := fun b o e => ap b o n fc (by rw [e])
          obtain ⟨S, rfl, j2, i5⟩ : ∃ S, v5 = .slice (some ⟨S, 0, none⟩) g.names.length g.names.length ∧ w.heap.size + 2 ≤ S ∧ w1.heap[S]? = some (.cells (Array.replicate g.names.length (Value.slice none 0 0)) 35 (0, 0)) := hd.2.2.2.2.2.1
          obtain ⟨C, rfl, j3, i7⟩ : ∃ C, v11 = .chan (some C) ∧ w.heap.size + 2 ≤ C ∧ w1.heap[C]? = some (.chan (g.names.length * (g.terms.length + 1)) #[] false 0 0 false) := hd.2.2.2.2.2.2.1
          have IJ : Hid (BoolsAt w1.heap.size w1 no (Nl.of g) ∧ OwnRows 0 w1 (.slice fo n fc) (Fi.setsG g) ∧ w1.heap[H]? = some (.cells (Array.replicate g.names.length (Value.slice none 0 0)) 31 (0, 0)) ∧ w1.heap[S]? = some (.cells (Array.replicate g.names.length (Value.slice none 0 0)) 35 (0, 0)) ∧ w1.heap[C]? = some (.chan (g.names.length * (g.terms.length + 1)) #[] false 0 0 false) ∧ ∀ b o, fo = some ⟨b, o, none⟩ → b ≠ H) := ⟨i1, i2, i3, i5, i7, AP.out⟩
          clear i1 i2 i3 i5 i7 ap AP
          go_simp
          exact hK _ _ (Lat.refl _) ⟨no, fo, nnc, fc, H, S, C, rfl, ⟨j1, j2, j3⟩, IJ.out⟩
        refine wpFacts_norm (by simp only [Act.put, List.setIfInBounds_toArray, List.set_cons_zero, List.set_cons_succ]; rfl) (by simp only [List.cons_append, List.nil_append]; rfl) ?_
        refine wpFacts_fact (by rfl) (fun w1 hL hd K hK => ?_) (fun v13 => ?_)
        · go_simp
          exact hK _ _ (Below.alloc (Below.refl _ _) (Nat.le_refl _) _) ⟨_, rfl, (HS1.out w1 hL).2.1, heap_alloc_new _ _⟩
        refine wpFacts_norm (by simp only [Act.put, List.setIfInBounds_toArray, List.set_cons_zero, List.set_cons_succ]; rfl) (by simp only [List.cons_append, List.nil_append]; rfl) ?_
        intro w1 hL ha
        obtain ⟨no, fo, nnc, fc, H, S, C, rfl, hlt, i1, i2, i3, i5, i7, AP⟩ : ∃ no fo nnc fc H S C, v12 = .agg (foCells g.terms.length n no fo nnc fc H S C g.names.length) ∧ (w.heap.size + 2 ≤ H ∧ w.heap.size + 2 ≤ S ∧ w.heap.size + 2 ≤ C) ∧ BoolsAt w1.heap.size w1 no (Nl.of g) ∧ OwnRows 0 w1 (.slice fo n fc) (Fi.setsG g) ∧ w1.heap[H]? = some (.cells (Array.replicate g.names.length (Value.slice none 0 0)) 31 (0, 0)) ∧ w1.heap[S]? = some (.cells (Array.replicate g.names.length (Value.slice none 0 0)) 35 (0, 0)) ∧ w1.heap[C]? = some (.chan (g.names.length * (g.terms.length + 1)) #[] false 0 0 false) ∧ ∀ b o, fo = some ⟨b, o, none⟩ → b ≠ H := allHold_get 17 ha rfl rfl
        obtain ⟨b, rfl, hbM, hbk⟩ : ∃ b, v13 = .pointer (some ⟨b, 0, none⟩) ∧ w.heap.size + 2 ≤ b ∧ w1.heap[b]? = some (.cells #[.int .i64 0, .int .i64 0, .slice none 0 0, .slice none 0 0, .slice none 0 0, .slice none 0 0, .chan none] 57 (0, 0)) := allHold_get 18 ha rfl rfl
        clear ha
        have HI : Hid (FoMade g ⟨ta, tc, na, nc, ra, rac⟩ n no fo nnc fc H S C b w (((((((w1.setCell ⟨b, 0, none⟩ (.int .i64 (g.terms.length : Int))).setCell ⟨b, 1, none⟩ (.int .i64 (n : Int))).setCell ⟨b, 2, none⟩ (.slice no n nnc)).setCell ⟨b, 3, none⟩ (.slice fo n fc)).setCell ⟨b, 4, none⟩ (.slice (some ⟨H, 0, none⟩) g.names.length g.names.length)).setCell ⟨b, 5, none⟩ (.slice (some ⟨S, 0, none⟩) g.names.length g.names.length)).setCell ⟨b, 6, none⟩ (.chan (some C)))) := fomade_set hlt i1 i2 i3 i5 i7 AP hbM hbk (HS1.out w1 hL).1 (by rw [(HS1.out w1 hL).2.2.block _ (by rw [hWs.out]; omega)]; exact b0.out) (by rw [(HS1.out w1 hL).2.2.block _ (by rw [hWs.out]; omega)]; exact b1.out)
        obtain ⟨⟨c0, c1, c2, c3, c4, c5, c6⟩, z0, z1, z2, z3, z4, z5, z6⟩ := cells_seven_z hbk
        have hbl := (Array.getElem?_eq_some_iff.1 hbk).1
        clear i1 i2 i3 i5 i7 AP hbk hL HS1 HC1 b0 b1 hWs hB hml hmb hmc hwm hws hwt hwn2 HOF HFS
        simp only [foCells]
        go_upto_region 3 with fail
        generalize (((((((w1.setCell ⟨b, 0, none⟩ (.int .i64 (g.terms.length : Int))).setCell ⟨b, 1, none⟩ (.int .i64 (n : Int))).setCell ⟨b, 2, none⟩ (.slice no n nnc)).setCell ⟨b, 3, none⟩ (.slice fo n fc)).setCell ⟨b, 4, none⟩ (.slice (some ⟨H, 0, none⟩) g.names.length g.names.length)).setCell ⟨b, 5, none⟩ (.slice (some ⟨S, 0, none⟩) g.names.length g.names.length)).setCell ⟨b, 6, none⟩ (.chan (some C))) = W2 at *
        clear c0 c1 c2 c3 c4 c5 c6 z0 z1 z2 z3 z4 z5 z6 hbl
        have hsb2 : W2.heap[b]? = some (.cells #[.int .i64 (g.terms.length : Int), .int .i64 (n : Int), .slice no n nnc, .slice fo n fc, .slice (some ⟨H, 0, none⟩) g.names.length g.names.length, .slice (some ⟨S, 0, none⟩) g.names.length g.names.length, .chan (some C)] 57 (0, 0)) := HI.out.sb
        obtain ⟨⟨c0, c1, c2, c3, c4, c5, c6⟩, _⟩ := cells_seven_z hsb2
        have hbl2 := (Array.getElem?_eq_some_iff.1 hsb2).1
        have NBS : b ≠ S := fun e => by
          have h1 := hsb2
          rw [e, HI.out.ssb] at h1
          exact absurd (Obj.cells.inj (Option.some.inj h1)).2.1 (by decide)
        have hme : ∀ W : World, (Instr.makeSlice 35 (.int .i64 ((n : Int) + 1)) (.int .i64 ((n : Int) + 1))).run Tryz.prog W = .ok (.slice (some ⟨W.heap.size, 0, none⟩) (n + 1) (n + 1)) (W.alloc (.cells (Array.replicate (n + 1) (Value.bool false)) 4)) := fun W => by
          have := make_boolsN (n + 1) (by omega) W
          rw [show ((n + 1 : Nat) : Int) = (n : Int) + 1 from by omega] at this
          exact this
        go_wp2_with fail
        go_loopw [38] (fun i wr => ∃ (k : Nat) (Bs : List Nat), k ≤ g.names.length ∧ i = .int .i64 k ∧ Bs.length = k ∧ Hid (FRows W2 wr S (n + 1) g.names.length Bs)) (fun i _ => g.names.length - (intOf i).toNat)
        case atStart => exact ⟨0, [], Nat.zero_le _, rfl, rfl, ⟨ButL.refl _ _, by rw [HI.out.ssb]; simp [hdrs], fun b hb => by simp at hb, List.nodup_nil⟩⟩
        case round =>
          obtain ⟨k, Bs, hk, rfl, hBs, hR⟩ := hrel
          clear c0 c1 c2 c3 c4 c5 c6
          have hsb4 : wr.heap[b]? = some (.cells #[.int .i64 (g.terms.length : Int), .int .i64 (n : Int), .slice no n nnc, .slice fo n fc, .slice (some ⟨H, 0, none⟩) g.names.length g.names.length, .slice (some ⟨S, 0, none⟩) g.names.length g.names.length, .chan (some C)] 57 (0, 0)) := (hR.out.but.block b hbl2 (by simpa using NBS)).trans hsb2
          have hbl4 := (Array.getElem?_eq_some_iff.1 hsb4).1
          by_cases hkl : k < g.names.length
          · have hki : (k : Int) < (g.names.length : Int) := by omega
            have HC : Hid (∀ w1 : World, Lat wr.drew w1 → w1.cell? ⟨b, 5, none⟩ = some (.slice (some ⟨S, 0, none⟩) g.names.length g.names.length) ∧ w1.cell? ⟨b, 1, none⟩ = some (.int .i64 (n : Int))) := fun w1 hL => by
              have h := cells_seven_z ((hL.of_drew.block _ hbl4).trans hsb4)
              exact ⟨h.1.2.2.2.2.2.1, h.1.2.1⟩
            have hSl := (Array.getElem?_eq_some_iff.1 hR.out.sb).1
            go_upto_region 6 with fail
            refine wp_region_lat [.val (.pointer (some ⟨b, 5, none⟩)), .val (.slice (some ⟨S, 0, none⟩) g.names.length g.names.length), .val (.int .i64 (k : Int)), .val (.pointer (some ⟨b, 1, none⟩)), .val (.int .i64 (n : Int)), .val (.int .i64 ((n : Int) + 1)),
              .fact (fun v w' => ∃ B, v = .slice (some ⟨B, 0, none⟩) (n + 1) (n + 1) ∧ wr.heap.size ≤ B ∧ w'.heap[B]? = some (.cells (Array.replicate (n + 1) (Value.bool false)) 4 (0, 0))),
              .val (.pointer (some ⟨S, k, none⟩))] [_] (by kernel_rfl) (by kernel_rfl) rfl ?kept3 ?walk3
            case kept3 => exact ⟨fun v w1 w2 hL ⟨d, e, h1, h2⟩ => ⟨d, e, h1, by rw [hL.block _ (Array.getElem?_eq_some_iff.1 h2).1]; exact h2⟩, trivial⟩
            case walk3 =>
              refine wpFacts_val (by rfl) (fun w1 hL hd K hK => ?_) ?_
              · go_simp
                exact hK _ (Lat.refl _)
              refine wpFacts_norm (by simp only [Act.put, List.setIfInBounds_toArray, List.set_cons_zero, List.set_cons_succ]; rfl) (by simp only [List.nil_append]; rfl) ?_
              refine wpFacts_val (by rfl) (fun w1 hL hd K hK => ?_) ?_
              · obtain ⟨d0, d1⟩ := HC.out w1 hL
                go_simp
                exact hK _ (Lat.refl _)
              refine wpFacts_norm (by simp only [Act.put, List.setIfInBounds_toArray, List.set_cons_zero, List.set_cons_succ]; rfl) (by simp only [List.cons_append, List.nil_append]; rfl) ?_
              refine wpFacts_val (by rfl) (fun w1 hL hd K hK => ?_) ?_
              · go_simp
                exact hK _ (Lat.refl _)
              refine wpFacts_norm (by simp only [Act.put, List.setIfInBounds_toArray, List.set_cons_zero, List.set_cons_succ]; rfl) (by simp only [List.cons_append, List.nil_append]; rfl) ?_
              refine wpFacts_val (by rfl) (fun w1 hL hd K hK => ?_) ?_
              · go_simp
                exact hK _ (Lat.refl _)
              refine wpFacts_norm (by simp only [Act.put, List.setIfInBounds_toArray, List.set_cons_zero, List.set_cons_succ]; rfl) (by simp only [List.cons_append, List.nil_append]; rfl) ?_
              refine wpFacts_val (by rfl) (fun w1 hL hd K hK => ?_) ?_
              · obtain ⟨d0, d1⟩ := HC.out w1 hL
                go_simp
                exact hK _ (Lat.refl _)
              refine wpFacts_norm (by simp only [Act.put, List.setIfInBounds_toArray, List.set_cons_zero, List.set_cons_succ]; rfl) (by simp only [List.cons_append, List.nil_append]; rfl) ?_
              refine wpFacts_val (by rfl) (fun w1 hL hd K hK => ?_) ?_
              · go_simp
                exact hK _ (Lat.refl _)
              refine wpFacts_norm (by simp only [Act.put, List.setIfInBounds_toArray, List.set_cons_zero, List.set_cons_succ]; rfl) (by simp only [List.cons_append, List.nil_append]; rfl) ?_
              refine wpFacts_fact (by rfl) (fun w1 hL hd K hK => ?_) (fun v6 => ?_)
              · go_simp
                exact hK _ _ (Below.alloc (Below.refl _ _) (Nat.le_refl _) _) ⟨_, rfl, hL.of_drew.size, heap_alloc_new _ _⟩
              refine wpFacts_norm (by simp only [Act.put, List.setIfInBounds_toArray, List.set_cons_zero, List.set_cons_succ]; rfl) (by simp only [List.cons_append, List.nil_append]; rfl) ?_
              refine wpFacts_val (by rfl) (fun w1 hL hd K hK => ?_) ?_
              · go_simp
                exact hK _ (Lat.refl _)
              refine wpFacts_norm (by simp only [Act.put, List.setIfInBounds_toArray, List.set_cons_zero, List.set_cons_succ]; rfl) (by simp only [List.cons_append, List.nil_append]; rfl) ?_
              intro w1 hL ha
              obtain ⟨B, rfl, hB1, hB2⟩ : ∃ B, v6 = .slice (some ⟨B, 0, none⟩) (n + 1) (n + 1) ∧ wr.heap.size ≤ B ∧ w1.heap[B]? = some (.cells (Array.replicate (n + 1) (Value.bool false)) 4 (0, 0)) := allHold_get 6 ha rfl rfl
              clear ha
              have hS1 : w1.heap[S]? = some (.cells (hdrs Bs (n + 1) g.names.length).toArray 35 (0, 0)) := (hL.of_drew.block _ hSl).trans hR.out.sb
              have f0 : w1.frozen? ⟨S, k, none⟩ = false := by simp [World.frozen?, hS1]
              have hS1l := (Array.getElem?_eq_some_iff.1 hS1).1
              have hkh : k < (hdrs Bs (n + 1) g.names.length).length := by rw [hdrs_len _ _ _ (by omega)]; exact hkl
              have c0 : w1.cell? ⟨S, k, none⟩ = some ((hdrs Bs (n + 1) g.names.length)[k]) := by simp [World.cell?, hS1, hkh]
              have hN : Hid (FRows W2 (w1.setCell ⟨S, k, none⟩ (.slice (some ⟨B, 0, none⟩) (n + 1) (n + 1))) S (n + 1) g.names.length (Bs ++ [B])) := by
                have := hR.out.push (by omega) hL.of_drew hB1 hB2 (Array.getElem?_eq_some_iff.1 HI.out.ssb).1
                rw [hBs] at this
                exact this
              clear hB1 hB2 hS1 hL hR HC hsb4 hbl4
              go_wp2_with fail
              go_roundw
              case rel => exact ⟨k + 1, _, by omega, by go_num, by simp [hBs], hN⟩
              case measure => simp [intOf]; omega
          · obtain rfl : k = g.names.length := by omega
            have hki : ¬ (g.names.length : Int) < (g.names.length : Int) := by omega
            have R4 : Hid (RowsAt S (n + 1) Bs (List.replicate g.names.length (List.replicate (n + 1) false)) wr) := hR.out.done hBs
            have NSC : C ≠ S := fun e => by
              have h1 := HI.out.ch
              rw [e, HI.out.ssb] at h1; cases h1
            have NHS : H ≠ S := fun e => by
              have h1 := HI.out.hb
              rw [e, HI.out.ssb] at h1
              exact absurd (Obj.cells.inj (Option.some.inj h1)).2.1 (by decide)
            have BK : Hid (∀ k, k < W2.heap.size → k ≠ S → wr.heap[k]? = W2.heap[k]?) := fun k hk hne => hR.out.but.block k hk (by simpa using hne)
            have C4 : Hid (wr.heap[C]? = some (.chan (g.names.length * (g.terms.length + 1)) #[] false 0 0 false)) := (BK.out C (Array.getElem?_eq_some_iff.1 HI.out.ch).1 NSC).trans HI.out.ch
            have GB4 : Hid (wr.heap[w.heap.size]? = some (.cells #[.slice ta g.terms.length tc, .slice na g.names.length nc, .slice ra g.rules.length rac] 25 (0, 0))) := (BK.out _ (Array.getElem?_eq_some_iff.1 HI.out.gb).1 (by have := HI.out.lt; omega)).trans HI.out.gb
            have RB4 : Hid (wr.heap[w.heap.size + 1]? = some (.cells #[.int .i64 0, .int .i64 0, .slice none 0 0, .slice none 0 0, .slice none 0 0, .slice none 0 0, .chan none] 57 (0, 0))) := (BK.out _ (Array.getElem?_eq_some_iff.1 HI.out.rb).1 (by have := HI.out.lt; omega)).trans HI.out.rb
            have H4 : Hid (wr.heap[H]? = some (.cells (Array.replicate g.names.length (Value.slice none 0 0)) 31 (0, 0))) := (BK.out H (Array.getElem?_eq_some_iff.1 HI.out.hb).1 NHS).trans HI.out.hb
            have O4 : Hid (OwnRows 0 wr (.slice fo n fc) (Fi.setsG g)) := HI.out.fst.but HI.out.ssb (by decide) (by decide) BK.out
            have N4 : Hid (BoolsAt W2.heap.size wr no (Nl.of g)) := BoolsAt.keep HI.out.nul hR.out.but.size fun q o y hk hc => BK.out q hk fun e => by
              subst e
              have := cell_in HI.out.ssb hc
              simp at this
            have BSG : Hid (∀ q ∈ Bs, W2.heap.size ≤ q ∧ q < wr.heap.size) := fun q hq => ⟨(hR.out.row q hq).1, (Array.getElem?_eq_some_iff.1 (hR.out.row q hq).2).1⟩
            have W2S : Hid (W2.heap.size ≤ wr.heap.size) := hR.out.but.size
            have BW4 : Hid (Below w.heap.size w wr) := HI.out.below.trans (hR.out.but.below (fun q hq => by rw [List.mem_singleton] at hq; have := HI.out.lt; omega) HI.out.below.size)
            have L4 : Hid (LAt wr.heap.size H (List.replicate g.names.length (.slice none 0 0)) (List.replicate g.names.length []) wr) := LAt.start H4.out
            have G4 : Hid (GAt S C (n + 1) (g.names.length * (g.terms.length + 1)) Bs ⟨List.replicate g.names.length (List.replicate (n + 1) false), []⟩ wr) := ⟨R4.out, 0, 0, by rw [C4.out]; rfl⟩
            have SB4 : Hid (wr.heap[b]? = some (.cells #[.int .i64 (g.terms.length : Int), .int .i64 (n : Int), .slice no n nnc, .slice fo n fc, .slice (some ⟨H, 0, none⟩) g.names.length g.names.length, .slice (some ⟨S, 0, none⟩) g.names.length g.names.length, .chan (some C)] 57 (0, 0))) := hsb4
            have AP : Hid (∀ b o, fo = some ⟨b, o, none⟩ → b ≠ H) := HI.out.apart
            have LT : Hid (w.heap.size + 2 ≤ H ∧ w.heap.size + 2 ≤ S ∧ w.heap.size + 2 ≤ C ∧ w.heap.size + 2 ≤ b) := HI.out.lt
            have MW : Hid (w.heap.size + 2 ≤ W2.heap.size) := (Array.getElem?_eq_some_iff.1 HI.out.rb).1
            have NI : Hid (∀ (k : Nat) (cs : Array Value) (t : TypeId) (fr : Nat × Nat), wr.heap[k]? = some (.cells cs t fr) → t ≠ 4 → t ≠ 31 → k ∉ H :: C :: Bs) := fun k cs t fr hk h1 h2 q => by
              rcases List.mem_cons.1 q with q | q
              · rw [q, H4.out] at hk
                exact h2 (Obj.cells.inj (Option.some.inj hk)).2.1.symm
              · rcases List.mem_cons.1 q with q | q
                · rw [q, C4.out] at hk; cases hk
                · obtain ⟨i, hi, rfl⟩ := List.getElem_of_mem q
                  rw [R4.out.row i hi] at hk
                  exact h1 (Obj.cells.inj (Option.some.inj hk)).2.1.symm
            have NB : Hid (b ∉ H :: C :: Bs) := NI.out b _ _ _ SB4.out (by decide) (by decide)
            have NG : Hid (w.heap.size ∉ H :: C :: Bs) := NI.out _ _ _ _ GB4.out (by decide) (by decide)
            have NR : Hid (w.heap.size + 1 ∉ H :: C :: Bs) := NI.out _ _ _ _ RB4.out (by decide) (by decide)
            have LOW : Hid (∀ q ∈ H :: C :: Bs, w.heap.size ≤ q) := fun q hq => by
              have h1 := LT.out
              rcases List.mem_cons.1 hq with q | hq
              · omega
              · rcases List.mem_cons.1 hq with q | hq
                · omega
                · have := BSG.out _ hq; have := MW.out; omega
            have LTM : Hid (H < wr.heap.size ∧ S < wr.heap.size ∧ C < wr.heap.size ∧ ∀ b ∈ Bs, b < wr.heap.size) := ⟨(Array.getElem?_eq_some_iff.1 H4.out).1, R4.out.lt.1, (Array.getElem?_eq_some_iff.1 C4.out).1, fun q hq => (BSG.out q hq).2⟩
            obtain ⟨⟨c0, c1, c2, c3, c4, c5, c6⟩, _⟩ := cells_seven_z SB4.out
            obtain ⟨g0, g1, g2, _⟩ := cells_three_z GB4.out
            clear hR hsb4 BK hme HI hsb2 NBS NSC NHS NI hbl2 hwn
            rename World => W3
            go_wp2_with fail
            clear g0 g1 g2 c0 c1 c2 c3 c4 c5 c6
            go_loopw [53] (fun iv wr => ∃ (i : Nat) (st : Fi.St) (vs : List Value) (hs : List (List Int)), i ≤ g.rules.length ∧ iv = .int .i64 i ∧ Hid (Amid W3.heap.size (H :: C :: Bs) W3 wr) ∧ Hid (GAt S C (n + 1) (g.names.length * (g.terms.length + 1)) Bs st wr) ∧ Hid (LAt W3.heap.size H vs hs wr) ∧ Hid (Fo.Bg g.rules (Nl.of g) g.terms.length n g.names.length i 0 st hs)) (fun i _ => g.rules.length - (intOf i).toNat)
            case atStart => exact ⟨0, _, _, _, Nat.zero_le _, rfl, Amid.refl _ _ _, G4, L4, Fo.Bg.start⟩
            case round =>
              obtain ⟨i, st, vs, hs, hi, rfl, hA, hG, hL, hBg⟩ := hrel
              clear L4
              have sb5 : Hid (wr.heap[b]? = some (.cells #[.int .i64 (g.terms.length : Int), .int .i64 (n : Int), .slice no n nnc, .slice fo n fc, .slice (some ⟨H, 0, none⟩) g.names.length g.names.length, .slice (some ⟨S, 0, none⟩) g.names.length g.names.length, .chan (some C)] 57 (0, 0))) := (hA.out.block b (Array.getElem?_eq_some_iff.1 SB4.out).1 NB.out).trans SB4.out
              have BW5 : Hid (Below w.heap.size w wr) := BW4.out.trans (hA.out.below LOW.out BW4.out.size)
              by_cases hil : i < g.rules.length
              · have hii : (i : Int) < (g.rules.length : Int) := by omega
                obtain ⟨rb, ro, xo, xc, rfl, _, _, k0, k1, ki, hxc, _⟩ := HG.out.rules i hil
                replace k0 := cell_later BW5.out k0
                replace k1 := cell_later BW5.out k1
                have hmm : g.rules[i] ∈ g.rules := List.getElem_mem hil
                have h8 := H8.out _ hmm
                have hin := HF.out.right _ hmm
                have hlf := HF.out.left _ hmm
                have KI : Hid (IntsAt w.heap.size w xo g.rules[i].2) := ki
                have STEP : Hid (∀ (k : Nat) (hk : k < g.rules[i].2.length) (st : Fi.St) (hs : List (List Int)), (g.terms.length : Int) ≤ g.rules[i].2[k] → Fo.Bg g.rules (Nl.of g) g.terms.length n g.names.length i k st hs → Fo.Bg g.rules (Nl.of g) g.terms.length n g.names.length i (k + 1) (Fo.look (Nl.of g) (Fi.setsG g) (g.rules[i].2[k] - g.terms.length) (g.rules[i].2.drop (k + 1)) st) (Fo.heirs (Nl.of g) (g.rules[i].1 - g.terms.length) (g.rules[i].2[k] - g.terms.length) (g.rules[i].2.drop (k + 1)) hs)) := fun k hk st hs hx h => h.step HF.out hn (fun s hs' t => Fi.setsG_mem hg s (by omega) t) hil hk hx
                have SKIP : Hid (∀ (k : Nat) (hk : k < g.rules[i].2.length) (st : Fi.St) (hs : List (List Int)), g.rules[i].2[k] < (g.terms.length : Int) → Fo.Bg g.rules (Nl.of g) g.terms.length n g.names.length i k st hs → Fo.Bg g.rules (Nl.of g) g.terms.length n g.names.length i (k + 1) st hs) := fun k hk st hs hx h => h.skip hil hk hx
                have RULE : Hid (∀ (st : Fi.St) (hs : List (List Int)), Fo.Bg g.rules (Nl.of g) g.terms.length n g.names.length i g.rules[i].2.length st hs → Fo.Bg g.rules (Nl.of g) g.terms.length n g.names.length (i + 1) 0 st hs) := fun st hs h => Fo.Bg.rule hil h8 h
                clear ki hmm
                generalize g.rules[i] = y at *
                obtain ⟨l, rs⟩ := y
                simp only at k0 k1 h8 hin hxc hlf
                obtain ⟨lm, hlm⟩ : ∃ lm : Nat, l - (g.terms.length : Int) = (lm : Int) := ⟨(l - (g.terms.length : Int)).toNat, by omega⟩
                have hlN : lm < g.names.length := by omega
                have hbn : Hid (Below wr.heap.size wr (wr.alloc (Obj.cells #[.int .i64 l, .slice xo rs.length xc] 43))) := (Below.refl _ wr).alloc (Nat.le_refl _) _
                have kn : Hid ((wr.alloc (Obj.cells #[.int .i64 l, .slice xo rs.length xc] 43)).heap[wr.heap.size]? = some (.cells #[.int .i64 l, .slice xo rs.length xc] 43 (0, 0))) := heap_alloc_new wr _
                have hA2 : Hid (Amid W3.heap.size (H :: C :: Bs) W3 (wr.alloc (Obj.cells #[.int .i64 l, .slice xo rs.length xc] 43))) := hA.out.trans (Amid.of hbn.out hA.out.size)
                have hG2 : Hid (GAt S C (n + 1) (g.names.length * (g.terms.length + 1)) Bs st (wr.alloc (Obj.cells #[.int .i64 l, .slice xo rs.length xc] 43))) := hG.out.later hbn.out
                have hL2 : Hid (LAt W3.heap.size H vs hs (wr.alloc (Obj.cells #[.int .i64 l, .slice xo rs.length xc] 43))) := hL.out.later hbn.out
                have hsz3 : Hid (W3.heap.size ≤ wr.heap.size) := hA.out.size
                have hBg2 : Hid (Fo.Bg g.rules (Nl.of g) g.terms.length n g.names.length i 0 st hs) := hBg
                have hin2 : Hid _ := hin
                clear hA hG hL hBg hbn sb5 BW5 hin
                have hwrl : wr.heap.size < (wr.alloc (Obj.cells #[.int .i64 l, .slice xo rs.length xc] 43)).heap.size := by simp
                go_upto_region 11 with fail
                clear k0 k1
                generalize (wr.alloc (Obj.cells #[.int .i64 l, .slice xo rs.length xc] 43)) = W4 at *
                generalize wr.heap.size = R at *
                obtain ⟨r0, r1, _⟩ := cells_two_z kn.out
                go_wp2_with fail
                clear r0 r1
                go_loopw [60] (fun kv wq => ∃ (k : Nat) (st : Fi.St) (vs : List Value) (hs : List (List Int)), k ≤ rs.length ∧ kv = .int .i64 k ∧ Hid (Amid W3.heap.size (H :: C :: Bs) W3 wq) ∧ Hid (GAt S C (n + 1) (g.names.length * (g.terms.length + 1)) Bs st wq) ∧ Hid (LAt W3.heap.size H vs hs wq) ∧ Hid (Fo.Bg g.rules (Nl.of g) g.terms.length n g.names.length i k st hs) ∧ Hid (wq.heap[R]? = some (.cells #[.int .i64 l, .slice xo rs.length xc] 43 (0, 0)))) (fun i _ => rs.length - (intOf i).toNat)
                case atStart => exact ⟨0, st, vs, hs, Nat.zero_le _, rfl, hA2, hG2, hL2, hBg2, kn⟩
                case round =>
                  obtain ⟨k, st', vs', hs', hk, rfl, hA3, hG3, hL3, hBg3, hR3⟩ := hrel
                  clear hA2 hG2 hL2 hBg2 kn
                  have sb6 : Hid (wr.heap[b]? = some (.cells #[.int .i64 (g.terms.length : Int), .int .i64 (n : Int), .slice no n nnc, .slice fo n fc, .slice (some ⟨H, 0, none⟩) g.names.length g.names.length, .slice (some ⟨S, 0, none⟩) g.names.length g.names.length, .chan (some C)] 57 (0, 0))) := (hA3.out.block b (Array.getElem?_eq_some_iff.1 SB4.out).1 NB.out).trans SB4.out
                  have BW6 : Hid (Below w.heap.size w wr) := BW4.out.trans (hA3.out.below LOW.out BW4.out.size)
                  by_cases hkl : k < rs.length
                  · have hki : (k : Int) < (rs.length : Int) := by omega
                    have KW : Hid (IntsAt w.heap.size wr xo rs) := KI.out.later BW6.out
                    obtain ⟨xb, xof, rfl, _, _, x0⟩ := IntsAt.get KW.out k hkl
                    have hx := hin2.out _ (List.getElem_mem hkl)
                    have ST2 : Hid (∀ (st : Fi.St) (hs : List (List Int)), (g.terms.length : Int) ≤ rs[k] → Fo.Bg g.rules (Nl.of g) g.terms.length n g.names.length i k st hs → Fo.Bg g.rules (Nl.of g) g.terms.length n g.names.length i (k + 1) (Fo.look (Nl.of g) (Fi.setsG g) (rs[k] - g.terms.length) (rs.drop (k + 1)) st) (Fo.heirs (Nl.of g) (l - g.terms.length) (rs[k] - g.terms.length) (rs.drop (k + 1)) hs)) := fun st hs => STEP.out k hkl st hs
                    have SK2 : Hid (∀ (st : Fi.St) (hs : List (List Int)), rs[k] < (g.terms.length : Int) → Fo.Bg g.rules (Nl.of g) g.terms.length n g.names.length i k st hs → Fo.Bg g.rules (Nl.of g) g.terms.length n g.names.length i (k + 1) st hs) := fun st hs => SKIP.out k hkl st hs
                    generalize rs[k] = x at *
                    by_cases hxT : x < (g.terms.length : Int)
                    · have hxd : ¬ (g.terms.length : Int) ≤ x := by omega
                      have BN : Hid _ := SK2.out st' hs' hxT hBg3.out
                      clear ST2 SK2 hBg3 KW sb6 BW6
                      go_wp2_with fail
                      go_roundw
                      case rel => exact ⟨k + 1, st', vs', hs', by omega, by go_num, hA3, hG3, hL3, BN, hR3⟩
                      case measure => simp [intOf]; omega
                    · have hxd : (g.terms.length : Int) ≤ x := by omega
                      have BN0 := ST2.out st' hs' hxd hBg3.out
                      rw [hlm] at BN0
                      obtain ⟨xm, hxm⟩ : ∃ xm : Nat, x - (g.terms.length : Int) = (xm : Int) := ⟨(x - (g.terms.length : Int)).toNat, by omega⟩
                      have hxN : xm < g.names.length := by omega
                      rw [hxm] at BN0
                      obtain ⟨row, hrow⟩ : ∃ row, rs.drop (k + 1) = row := ⟨_, rfl⟩
                      have hrl : row.length = rs.length - (k + 1) := by rw [← hrow, List.length_drop]
                      rw [hrow] at BN0
                      have BN : Hid _ := BN0
                      obtain ⟨so, hso⟩ : ∃ so, (if xc = k + 1 then some (⟨xb, xof, none⟩ : Addr) else some ⟨xb, xof + (k + 1), none⟩) = so := ⟨_, rfl⟩
                      have hsl : ∀ W : World, (Instr.slice 31 (.slice (some ⟨xb, xof, none⟩) rs.length xc) (some (.int .i64 ((k : Int) + 1))) none none).run Tryz.prog W = .ok (.slice so row.length (xc - (k + 1))) W := fun W => by
                        have := slice_tailI xb xof rs.length xc (k + 1) (by omega) W
                        rw [hso, ← hrl, show ((k + 1 : Nat) : Int) = (k : Int) + 1 from by omega] at this
                        exact this
                      have hw1 : IntKind.wrap .i64 (l - (g.terms.length : Int)) = (lm : Int) := by rw [hlm, IntKind.wrap_i64]; omega
                      have hw2 : IntKind.wrap .i64 (x - (g.terms.length : Int)) = (xm : Int) := by rw [hxm, IntKind.wrap_i64]; omega
                      have hw4 : IntKind.wrap .i64 (lm : Int) = (lm : Int) := by rw [IntKind.wrap_i64]; omega
                      have hw5 : IntKind.wrap .i64 (xm : Int) = (xm : Int) := by rw [IntKind.wrap_i64]; omega
                      have hw3 : IntKind.wrap .i64 ((k : Int) + 1) = (k : Int) + 1 := by rw [IntKind.wrap_i64]; omega
                      have ROW : Hid (∀ W : World, IntsAt w.heap.size W (some ⟨xb, xof, none⟩) rs → IntsAt w.heap.size W so row) := fun W h j hj => by
                        have hj' : j < row.length := by simpa using hj
                        have hjr : k + 1 + j < rs.length := by omega
                        obtain ⟨b', o', e, h1, h2, h3⟩ := IntsAt.get h (k + 1 + j) hjr
                        simp only [Option.some.injEq, Addr.mk.injEq] at e
                        obtain ⟨rfl, rfl, _⟩ := e
                        have hne : ¬ xc = k + 1 := by omega
                        rw [if_neg hne] at hso
                        refine ⟨_, _, hso.symm, h1, h2, ?_⟩
                        rw [List.getElem_map, show xof + (k + 1) + j = xof + (k + 1 + j) from by omega, h3]
                        congr 2
                        simp only [← hrow, List.getElem_drop]
                      have hbl6 := (Array.getElem?_eq_some_iff.1 sb6.out).1
                      have HC : Hid (∀ w1 : World, Lat wr.drew w1 → w1.heap[b]? = some (.cells #[.int .i64 (g.terms.length : Int), .int .i64 (n : Int), .slice no n nnc, .slice fo n fc, .slice (some ⟨H, 0, none⟩) g.names.length g.names.length, .slice (some ⟨S, 0, none⟩) g.names.length g.names.length, .chan (some C)] 57 (0, 0)) ∧ w1.heap[R]? = some (.cells #[.int .i64 l, .slice (some ⟨xb, xof, none⟩) rs.length xc] 43 (0, 0))) := fun w1 hL => ⟨(hL.of_drew.block _ hbl6).trans sb6.out, (hL.of_drew.block _ (Array.getElem?_eq_some_iff.1 hR3.out).1).trans hR3.out⟩
                      have HROW : Hid (rs.drop (k + 1) = row) := hrow
                      have HRL : Hid (row.length ≤ 8) := by show _ ≤ _; omega
                      have BOK : Hid (Fo.Ok g.terms.length n g.names.length st') := hBg3.out.ok
                      have BHL : Hid (hs'.length = g.names.length) := hBg3.out.hlen
                      have BSM : Hid (∀ a : Nat, (hs'.getD a []).length ≤ 8 * i + k) := hBg3.out.small
                      have NRR : Hid (R ∉ H :: C :: Bs) := fun q => by
                        rcases List.mem_cons.1 q with q | q
                        · have h := hR3.out
                          rw [q, hL3.out.lb] at h
                          exact absurd (Obj.cells.inj (Option.some.inj h)).2.1 (by decide)
                        · exact hG3.out.apart (cells_two_z hR3.out).1 (by simp) q
                      clear hrow hrl ST2 SK2 hBg3 BN0
                      go_upto_region 15 with fail
                      refine wp_region_lat [.val (.agg #[.int .i64 (g.terms.length : Int), .int .i64 (n : Int), .slice no n nnc, .slice fo n fc, .slice (some ⟨H, 0, none⟩) g.names.length g.names.length, .slice (some ⟨S, 0, none⟩) g.names.length g.names.length, .chan (some C)]), .val (.pointer (some ⟨R, 0, none⟩)), .val (.int .i64 l), .val (.int .i64 (g.terms.length : Int)), .val (.int .i64 (lm : Int)), .val (.int .i64 x), .val (.int .i64 (g.terms.length : Int)), .val (.int .i64 (xm : Int)), .val (.pointer (some ⟨R, 1, none⟩)), .val (.slice (some ⟨xb, xof, none⟩) rs.length xc), .val (.int .i64 (k : Int)), .val (.int .i64 ((k : Int) + 1)), .val (.slice so row.length (xc - (k + 1)))] [_] (by kernel_rfl) (by kernel_rfl) rfl ?kept5 ?walk5
                      case kept5 => exact trivial
                      case walk5 =>
                        refine wpFacts_val (by rfl) (fun w1 hL hd K hK => ?_) ?_
                        · obtain ⟨⟨c0, c1, c2, c3, c4, c5, c6⟩, _⟩ := cells_seven_z (HC.out w1 hL).1
                          go_simp
                          exact hK _ (Lat.refl _)
                        refine wpFacts_norm (by simp only [Act.put, List.setIfInBounds_toArray, List.set_cons_zero, List.set_cons_succ]; rfl) (by simp only [List.nil_append]; rfl) ?_
                        refine wpFacts_val (by rfl) (fun w1 hL hd K hK => ?_) ?_
                        · go_simp
                          exact hK _ (Lat.refl _)
                        refine wpFacts_norm (by simp only [Act.put, List.setIfInBounds_toArray, List.set_cons_zero, List.set_cons_succ]; rfl) (by simp only [List.cons_append, List.nil_append]; rfl) ?_
                        refine wpFacts_val (by rfl) (fun w1 hL hd K hK => ?_) ?_
                        · obtain ⟨d0, d1, _⟩ := cells_two_z (HC.out w1 hL).2
                          go_simp
                          exact hK _ (Lat.refl _)
                        refine wpFacts_norm (by simp only [Act.put, List.setIfInBounds_toArray, List.set_cons_zero, List.set_cons_succ]; rfl) (by simp only [List.cons_append, List.nil_append]; rfl) ?_
                        refine wpFacts_val (by rfl) (fun w1 hL hd K hK => ?_) ?_
                        · go_simp
                          exact hK _ (Lat.refl _)
                        refine wpFacts_norm (by simp only [Act.put, List.setIfInBounds_toArray, List.set_cons_zero, List.set_cons_succ]; rfl) (by simp only [List.cons_append, List.nil_append]; rfl) ?_
                        refine wpFacts_val (by rfl) (fun w1 hL hd K hK => ?_) ?_
                        · go_simp
                          exact hK _ (Lat.refl _)
                        refine wpFacts_norm (by simp only [Act.put, List.setIfInBounds_toArray, List.set_cons_zero, List.set_cons_succ]; rfl) (by simp only [List.cons_append, List.nil_append]; rfl) ?_
                        refine wpFacts_val (by rfl) (fun w1 hL hd K hK => ?_) ?_
                        · go_simp
                          exact hK _ (Lat.refl _)
                        refine wpFacts_norm (by simp only [Act.put, List.setIfInBounds_toArray, List.set_cons_zero, List.set_cons_succ]; rfl) (by simp only [List.cons_append, List.nil_append]; rfl) ?_
                        refine wpFacts_val (by rfl) (fun w1 hL hd K hK => ?_) ?_
                        · go_simp
                          exact hK _ (Lat.refl _)
                        refine wpFacts_norm (by simp only [Act.put, List.setIfInBounds_toArray, List.set_cons_zero, List.set_cons_succ]; rfl) (by simp only [List.cons_append, List.nil_append]; rfl) ?_
                        refine wpFacts_val (by rfl) (fun w1 hL hd K hK => ?_) ?_
                        · go_simp
                          exact hK _ (Lat.refl _)
                        refine wpFacts_norm (by simp only [Act.put, List.setIfInBounds_toArray, List.set_cons_zero, List.set_cons_succ]; rfl) (by simp only [List.cons_append, List.nil_append]; rfl) ?_
                        refine wpFacts_val (by rfl) (fun w1 hL hd K hK => ?_) ?_
                        · go_simp
                          exact hK _ (Lat.refl _)
                        refine wpFacts_norm (by simp only [Act.put, List.setIfInBounds_toArray, List.set_cons_zero, List.set_cons_succ]; rfl) (by simp only [List.cons_append, List.nil_append]; rfl) ?_
                        refine wpFacts_val (by rfl) (fun w1 hL hd K hK => ?_) ?_
                        · obtain ⟨d0, d1, _⟩ := cells_two_z (HC.out w1 hL).2
                          go_simp
                          exact hK _ (Lat.refl _)
                        refine wpFacts_norm (by simp only [Act.put, List.setIfInBounds_toArray, List.set_cons_zero, List.set_cons_succ]; rfl) (by simp only [List.cons_append, List.nil_append]; rfl) ?_
                        refine wpFacts_val (by rfl) (fun w1 hL hd K hK => ?_) ?_
                        · go_simp
                          exact hK _ (Lat.refl _)
                        refine wpFacts_norm (by simp only [Act.put, List.setIfInBounds_toArray, List.set_cons_zero, List.set_cons_succ]; rfl) (by simp only [List.cons_append, List.nil_append]; rfl) ?_
                        refine wpFacts_val (by rfl) (fun w1 hL hd K hK => ?_) ?_
                        · go_simp
                          exact hK _ (Lat.refl _)
                        refine wpFacts_norm (by simp only [Act.put, List.setIfInBounds_toArray, List.set_cons_zero, List.set_cons_succ]; rfl) (by simp only [List.cons_append, List.nil_append]; rfl) ?_
                        refine wpFacts_val (by rfl) (fun w1 hL hd K hK => ?_) ?_
                        · exact wp_slice_tail (.tmp 77) (.tmp 79) rfl _ _ _ rfl rfl (hsl w1) (hK _ (Lat.refl _))
                        refine wpFacts_norm (by simp only [Act.put, List.setIfInBounds_toArray, List.set_cons_zero, List.set_cons_succ]; rfl) (by simp only [List.cons_append, List.nil_append]; rfl) ?_
                        intro w1 hL ha
                        clear ha
                        have hlw := hL.of_drew
                        have A6 : Hid (Amid W3.heap.size (H :: C :: Bs) W3 w1) := hA3.out.trans (Amid.of hlw hA3.out.size)
                        have BW7 : Hid (Below w.heap.size w w1) := BW4.out.trans (A6.out.below LOW.out BW4.out.size)
                        have R6 : Hid (w1.heap[R]? = some (.cells #[.int .i64 l, .slice (some ⟨xb, xof, none⟩) rs.length xc] 43 (0, 0))) := (HC.out w1 hL).2
                        have LI : Hid (LisAt w1.heap.size w1 fo (Fi.setsG g)) := by
                          have h := O4.out.amid A6.out (Nat.le_refl _) G4.out H4.out (by
                            intro e
                            cases hfo : fo with
                            | none => rw [hfo] at e; cases e
                            | some ad =>
                              obtain ⟨ab, ao, ap⟩ := ad
                              rw [hfo] at e
                              have hab : ab = H := by simpa [Value.ownBlock] using e
                              have hv := O4.out
                              obtain ⟨vs2, h1, _⟩ := hv
                              rcases h1.2 with ⟨e2, _⟩ | ⟨g2, cap2, cur2, e2, _⟩
                              · rw [hfo] at e2; cases e2
                              · rw [hfo] at e2
                                simp only [Value.slice.injEq, Option.some.injEq, Addr.mk.injEq] at e2
                                exact AP.out ab ao (by rw [hfo, e2.1.2.2]) hab)
                          obtain ⟨ao, c, e, h1, _⟩ := h.read
                          simp only [Value.slice.injEq] at e
                          obtain ⟨rfl, _⟩ := e
                          exact h1
                        have SS : Hid (∀ s : Nat, ((Fi.setsG g).getD s []).length ≤ 4000) := fun s => by
                          rcases Nat.lt_or_ge s (Fi.setsG g).length with q | q
                          · have h1 := Fi.setsG_short g _ (List.getElem_mem q)
                            have h2 : (Fi.setsG g).getD s [] = (Fi.setsG g)[s] := by simp [List.getD_eq_getElem?_getD, q]
                            rw [h2]; omega
                          · have h2 : (Fi.setsG g).getD s [] = [] := by simp [List.getD_eq_getElem?_getD, q]
                            rw [h2]; simp
                        have NW : Hid (BoolsAt W2.heap.size w1 no (Nl.of g)) := BoolsAt.keep N4.out A6.out.size fun q o y hq hc => A6.out.block q (by have := W2S.out; omega) fun e => by
                          rcases List.mem_cons.1 e with e | e
                          · rw [e] at hc
                            have := cell_in H4.out hc
                            simp at this
                          · rcases List.mem_cons.1 e with e | e
                            · rw [e] at hc; exact cell_chan C4.out hc
                            · have := (BSG.out q e).1; omega
                        have KX : Hid (IntsAt w1.heap.size w1 so row) := IntsAt.size (ROW.out w1 (KI.out.later BW7.out))
                        have RI : Hid (∀ s ∈ row, 0 ≤ s ∧ s < (n : Int)) := fun s hs => hin2.out s (by rw [← HROW.out] at hs; exact List.mem_of_mem_drop hs)
                        have SML : Hid ((hs'.getD lm []).length + 1 ≤ 8000) := by
                          show _ ≤ _
                          have := BSM.out lm
                          omega
                        have LK : Hid _ := look_any (Nl.of g) (Fi.setsG g) row st' hs' vs' g.terms.length n g.names.length W3.heap.size W2.heap.size H S C nnc fc (xc - (k + 1)) no fo so Bs lm xm w1 A6.out.size hn (by omega) (hG3.out.later hlw) LTM.out BOK.out (hL3.out.later hlw) BHL.out SML.out NW.out W2S.out (fun q hq => (BSG.out q hq).1) HLN.out LI.out HFL.out (fun s hs t ht => Fi.setsG_in hg s (by omega) t ht) SS.out KX.out RI.out (by have := HRL.out; omega) hlN hxN
                        simp only [foCells] at LK
                        clear SS NW KX RI SML LI hL hG3 hL3 HC KW ROW hsl x0
                        simp only [List.length_cons, List.length_nil, Nat.reduceAdd]
                        refine wpList_wanted (by rfl) fun K hK => ?_
                        go_simp
                        refine Calls.mono LK.out ?_
                        rintro e w5 ⟨rfl, hA7, hG7, vs7, hL7⟩
                        refine hK _ _ ?_
                        go_wp2_with fail
                        have A8 : Hid (Amid W3.heap.size (H :: C :: Bs) W3 w5) := A6.out.trans hA7.out
                        have R8 : Hid (w5.heap[R]? = some (.cells #[.int .i64 l, .slice (some ⟨xb, xof, none⟩) rs.length xc] 43 (0, 0))) := (hA7.out.other R _ _ _ NRR.out R6.out (by decide)).trans R6.out
                        clear LK A6 BW7 R6 hA7
                        go_roundw
                        case rel => exact ⟨k + 1, _, vs7, _, by omega, by go_num, A8, hG7, hL7, BN, R8⟩
                        case measure => simp [intOf]; omega
                  · obtain rfl : k = rs.length := by omega
                    have hki : ¬ (rs.length : Int) < (rs.length : Int) := by omega
                    have BN : Hid _ := RULE.out st' hs' hBg3.out
                    clear hBg3 sb6 BW6
                    go_wp2_with fail
                    go_roundw
                    case rel => exact ⟨i + 1, st', vs', hs', by omega, by go_num, hA3, hG3, hL3, BN⟩
                    case measure => simp [intOf]; omega
              · obtain rfl : i = g.rules.length := by omega
                have hii : ¬ (g.rules.length : Int) < (g.rules.length : Int) := by omega
                obtain ⟨j1, j2⟩ := Fo.Bg.done hn HN0.out hBg.out
                have J1 : Hid (Fo.Inv g.rules (Nl.of g) g.terms.length n g.names.length (fun _ _ _ => False) (Fi.grow st 0 n)) := j1
                have J2 : Hid (Fo.Heirs g.rules (Nl.of g) g.terms.length g.names.length hs) := j2
                have J3 : Hid (∀ a : Nat, (hs.getD a []).length ≤ 480) := fun a => by have := hBg.out.small a; omega
                have room := (hBg.out.ok.grow (by omega) (a := 0) (v := (n : Int)) (by have := HN0.out; omega) (by omega) (.inr rfl)).2.2
                have HGR : Hid _ := fogrow_any st g.names.length g.terms.length n S C (g.names.length * (g.terms.length + 1)) H nnc fc no fo Bs 0 (n : Int) wr hG.out hBg.out.ok.shape.len (by have := HN0.out; omega) (by omega) room
                simp only [foCells] at HGR
                have sb6 := sb5.out
                obtain ⟨⟨c0, c1, c2, c3, c4, c5, c6⟩, _⟩ := cells_seven_z sb6
                have hbl6 := (Array.getElem?_eq_some_iff.1 sb6).1
                clear hBg j1 j2 room
                go_wp2_with (go_at_call 52; fail)
                refine Calls.mono HGR.out ?_
                rintro e w5 ⟨rfl, hb5, hs5⟩
                have A8 : Hid (Amid W3.heap.size (H :: C :: Bs) W3 w5) := hA.out.trans (Amid.more (Amid.butL hb5.out hA.out.size) fun q hq => List.mem_cons_of_mem _ hq)
                have L8 : Hid (LAt W3.heap.size H vs hs w5) := LAt.butL hL.out hb5.out fun q hq cs fr h => by
                  rcases List.mem_cons.1 hq with hq | hq
                  · obtain ⟨sn, rn, hch⟩ := hG.out.ch
                    rw [hq] at h
                    rcases h with h | h <;> rw [hch] at h <;> cases h
                  · obtain ⟨i, hi, rfl⟩ := List.getElem_of_mem hq
                    have hr := hG.out.rs.row i hi
                    rcases h with h | h <;> rw [hr] at h
                    · exact absurd (Obj.cells.inj (Option.some.inj h)).2.1 (by decide)
                    · exact absurd (Obj.cells.inj (Option.some.inj h)).2.1 (by decide)
                have sb7 : w5.heap[b]? = some (.cells #[.int .i64 (g.terms.length : Int), .int .i64 (n : Int), .slice no n nnc, .slice fo n fc, .slice (some ⟨H, 0, none⟩) g.names.length g.names.length, .slice (some ⟨S, 0, none⟩) g.names.length g.names.length, .chan (some C)] 57 (0, 0)) := (A8.out.block b (Array.getElem?_eq_some_iff.1 SB4.out).1 NB.out).trans SB4.out
                have rb7 : Hid (w5.heap[w.heap.size + 1]? = some (.cells #[.int .i64 0, .int .i64 0, .slice none 0 0, .slice none 0 0, .slice none 0 0, .slice none 0 0, .chan none] 57 (0, 0))) := (A8.out.block _ (Array.getElem?_eq_some_iff.1 RB4.out).1 NR.out).trans RB4.out
                have BW8 : Hid (Below w.heap.size w w5) := BW4.out.trans (A8.out.below LOW.out BW4.out.size)
                clear c0 c1 c2 c3 c4 c5 c6 hb5 HGR hG hL sb5 sb6 hbl6 hA
                obtain ⟨⟨c0, c1, c2, c3, c4, c5, c6⟩, _⟩ := cells_seven_z sb7
                have hbl7 := (Array.getElem?_eq_some_iff.1 sb7).1
                obtain ⟨⟨d0, d1, d2, d3, d4, d5, d6⟩, z0, z1, z2, z3, z4, z5, z6⟩ := cells_seven_z rb7.out
                have hrl7 := (Array.getElem?_eq_some_iff.1 rb7.out).1
                have hFS : Hid (∀ W6 : World, ButL [w.heap.size + 1] w5 W6 → FoS g n H S C Bs vs hs (Fi.grow st 0 n) w W6) := fun W6 hW => by
                  have hnR : ∀ q ∈ H :: C :: Bs, q ∉ [w.heap.size + 1] := fun q hq e => by
                    rw [List.mem_singleton] at e
                    rw [e] at hq
                    exact NR.out hq
                  refine ⟨BW8.out.trans (hW.below (fun q hq => by rw [List.mem_singleton] at hq; omega) BW8.out.size), ⟨LOW.out C (by simp), fun q hq => LOW.out q (by simp [hq])⟩, (L8.out.butL hW fun q hq cs fr h => ?_).from BW4.out.size, J2.out, J3.out, hs5.out.keep (hW.block _ hs5.out.lt.1 (by rw [List.mem_singleton]; have := LT.out; omega)) (hW.block _ hs5.out.lt.2.1 (hnR C (by simp))) (fun q hq => hW.block _ (hs5.out.lt.2.2 q hq) (hnR q (by simp [hq]))), J1.out⟩
                  rw [List.mem_singleton] at hq
                  subst hq
                  rcases h with h | h <;> rw [rb7.out] at h
                  · exact absurd (Obj.cells.inj (Option.some.inj h)).2.1 (by decide)
                  · exact absurd (Obj.cells.inj (Option.some.inj h)).2.1 (by decide)
                have HB6 : Hid (ButL [w.heap.size + 1] w5 (((((((w5.setCell ⟨w.heap.size + 1, 0, none⟩ (.int .i64 (g.terms.length : Int))).setCell ⟨w.heap.size + 1, 1, none⟩ (.int .i64 (n : Int))).setCell ⟨w.heap.size + 1, 2, none⟩ (.slice no n nnc)).setCell ⟨w.heap.size + 1, 3, none⟩ (.slice fo n fc)).setCell ⟨w.heap.size + 1, 4, none⟩ (.slice (some ⟨H, 0, none⟩) g.names.length g.names.length)).setCell ⟨w.heap.size + 1, 5, none⟩ (.slice (some ⟨S, 0, none⟩) g.names.length g.names.length)).setCell ⟨w.heap.size + 1, 6, none⟩ (.chan (some C)))) :=
                  (((((((ButL.refl _ w5).setCell (List.mem_cons_self ..) _ _).setCell (List.mem_cons_self ..) _ _).setCell (List.mem_cons_self ..) _ _).setCell (List.mem_cons_self ..) _ _).setCell (List.mem_cons_self ..) _ _).setCell (List.mem_cons_self ..) _ _).setCell (List.mem_cons_self ..) _ _
                have k5 := gset7 (x0 := .int .i64 (g.terms.length : Int)) (x1 := .int .i64 (n : Int)) (x2 := .slice no n nnc) (x3 := .slice fo n fc) (x4 := .slice (some ⟨H, 0, none⟩) g.names.length g.names.length) (x5 := .slice (some ⟨S, 0, none⟩) g.names.length g.names.length) (x6 := .chan (some C)) rb7.out
                have hn0 : ¬ b = w.heap.size + 1 := fun e => by have := LT.out.2.2.2; omega
                clear hs5 L8 A8 J1 J2 J3
                go_wp2_with fail
                generalize (((((((w5.setCell ⟨w.heap.size + 1, 0, none⟩ (.int .i64 (g.terms.length : Int))).setCell ⟨w.heap.size + 1, 1, none⟩ (.int .i64 (n : Int))).setCell ⟨w.heap.size + 1, 2, none⟩ (.slice no n nnc)).setCell ⟨w.heap.size + 1, 3, none⟩ (.slice fo n fc)).setCell ⟨w.heap.size + 1, 4, none⟩ (.slice (some ⟨H, 0, none⟩) g.names.length g.names.length)).setCell ⟨w.heap.size + 1, 5, none⟩ (.slice (some ⟨S, 0, none⟩) g.names.length g.names.length)).setCell ⟨w.heap.size + 1, 6, none⟩ (.chan (some C))) = W6 at *
                obtain ⟨⟨e0, e1, e2, e3, e4, e5, e6⟩, _⟩ := cells_seven_z k5
                refine bodyPost_ret (v := .agg (foCells g.terms.length n no fo nnc fc H S C g.names.length)) (by simp [results, Tryz.results51, go_sem, foCells, e0, e1, e2, e3, e4, e5, e6]) rfl ⟨no, fo, nnc, fc, H, S, C, rfl, Bs, vs, hs, _, hFS.out _ HB6.out⟩
    case h2 =>
      simp (config := { decide := true }) only [addEdge, swapAt, swp, mapOn, sig, List.map_cons, List.map_nil, List.map_toArray, List.push_toArray, List.cons_append, List.nil_append, if_true, if_false, Nat.reduceAdd]
      refine wpAny_lat [.val (.int .i64 (g.terms.length : Int)), .val (.int .i64 (g.terms.length : Int)), .val (.int .i64 (g.names.length : Int)), .val (.int .i64 (n : Int)), .val (.agg #[.slice ta g.terms.length tc, .slice na g.names.length nc, .slice ra g.rules.length rac]), .fact (fun v w' => ∃ no nnc, v = .slice no n nnc ∧ BoolsAt w'.heap.size w' no (Nl.of g)), .val (.agg #[.slice ta g.terms.length tc, .slice na g.names.length nc, .slice ra g.rules.length rac]), .val (.int .i64 (g.names.length : Int)), .fact (fun v w' => ∃ H, v = .slice (some ⟨H, 0, none⟩) g.names.length g.names.length ∧ w.heap.size + 2 ≤ H ∧ w'.heap[H]? = some (.cells (Array.replicate g.names.length (Value.slice none 0 0)) 31 (0, 0))), .rel (fun vf v w' => ∃ fo fc, v = .slice fo n fc ∧ OwnRows 0 w' (.slice fo n fc) (Fi.setsG g) ∧ ∀ b o l c H', fo = some ⟨b, o, none⟩ → vf 8 = .slice (some ⟨H', 0, none⟩) l c → b ≠ H'), .val (.int .i64 (g.names.length : Int)), .fact (fun v w' => ∃ S, v = .slice (some ⟨S, 0, none⟩) g.names.length g.names.length ∧ w.heap.size + 2 ≤ S ∧ w'.heap[S]? = some (.cells (Array.replicate g.names.length (Value.slice none 0 0)) 35 (0, 0))), .val (.int .i64 (g.names.length : Int)), .val (.int .i64 (g.terms.length : Int)), .val (.int .i64 ((g.terms.length : Int) + 1)), .val (.int .i64 ((g.names.length : Int) * ((g.terms.length : Int) + 1))), .fact (fun v w' => ∃ C, v = .chan (some C) ∧ w.heap.size + 2 ≤ C ∧ w'.heap[C]? = some (.chan (g.names.length * (g.terms.length + 1)) #[] false 0 0 false)), .fact (fun v w' => ∃ no fo nnc fc H S C, v = .agg (foCells g.terms.length n no fo nnc fc H S C g.names.length) ∧ (w.heap.size + 2 ≤ H ∧ w.heap.size + 2 ≤ S ∧ w.heap.size + 2 ≤ C) ∧ BoolsAt w'.heap.size w' no (Nl.of g) ∧ OwnRows 0 w' (.slice fo n fc) (Fi.setsG g) ∧ w'.heap[H]? = some (.cells (Array.replicate g.names.length (Value.slice none 0 0)) 31 (0, 0)) ∧ w'.heap[S]? = some (.cells (Array.replicate g.names.length (Value.slice none 0 0)) 35 (0, 0)) ∧ w'.heap[C]? = some (.chan (g.names.length * (g.terms.length + 1)) #[] false 0 0 false) ∧ ∀ b o, fo = some ⟨b, o, none⟩ → b ≠ H), .fact (fun v w' => ∃ b, v = .pointer (some ⟨b, 0, none⟩) ∧ w.heap.size + 2 ≤ b ∧ w'.heap[b]? = some (.cells #[.int .i64 0, .int .i64 0, .slice none 0 0, .slice none 0 0, .slice none 0 0, .slice none 0 0, .chan none] 57 (0, 0)))] [] [_] (by kernel_rfl) rfl ?kept ?walk
      case kept =>
        have kp : ∀ {b : Nat} {o : Obj} {w1 w2 : World}, Lat w1 w2 → w1.heap[b]? = some o → w2.heap[b]? = some o := fun hL h => by rw [hL.block _ (Array.getElem?_eq_some_iff.1 h).1]; exact h
        exact ⟨fun v w1 w2 hL ⟨no, c, e, h1⟩ => ⟨no, c, e, h1.next hL⟩, fun v w1 w2 hL ⟨I, e, h1, h2⟩ => ⟨I, e, h1, kp hL h2⟩, fun vf v w1 w2 hL ⟨no, c, e, h1, h2⟩ => ⟨no, c, e, h1.below hL, h2⟩, fun vf vf' v w hv ⟨no, c, e, h1, h2⟩ => ⟨no, c, e, h1, by rw [← hv 8 ⟨_, ⟨8, .data⟩, rfl, by simp, rfl, rfl⟩]; exact h2⟩, fun v w1 w2 hL ⟨I, e, h1, h2⟩ => ⟨I, e, h1, kp hL h2⟩, fun v w1 w2 hL ⟨C, e, h1, h2⟩ => ⟨C, e, h1, kp hL h2⟩, fun v w1 w2 hL ⟨no, fo, nnc, fc, H, S, C, e, h1, h2, h2', h3, h4, h5, h6⟩ => ⟨no, fo, nnc, fc, H, S, C, e, h1, h2.next hL, h2'.below hL, kp hL h3, kp hL h4, kp hL h5, h6⟩, fun v w1 w2 hL ⟨b, e, h1, h2⟩ => ⟨b, e, h1, kp hL h2⟩, trivial⟩
      case walk =>
        refine wpFacts_val (by rfl) (fun w1 hL hd K hK => ?_) ?_
        · go_simp
          exact hK _ (Lat.refl _)
        refine wpFacts_norm (by simp only [Act.put, List.setIfInBounds_toArray, List.set_cons_zero, List.set_cons_succ]; rfl) (by simp only [List.nil_append]; rfl) ?_
        refine wpFacts_val (by rfl) (fun w1 hL hd K hK => ?_) ?_
        · go_simp
          exact hK _ (Lat.refl _)
        refine wpFacts_norm (by simp only [Act.put, List.setIfInBounds_toArray, List.set_cons_zero, List.set_cons_succ]; rfl) (by simp only [List.cons_append, List.nil_append]; rfl) ?_
        refine wpFacts_val (by rfl) (fun w1 hL hd K hK => ?_) ?_
        · go_simp
          exact hK _ (Lat.refl _)
        refine wpFacts_norm (by simp only [Act.put, List.setIfInBounds_toArray, List.set_cons_zero, List.set_cons_succ]; rfl) (by simp only [List.cons_append, List.nil_append]; rfl) ?_
        refine wpFacts_val (by rfl) (fun w1 hL hd K hK => ?_) ?_
        · go_simp
          exact hK _ (Lat.refl _)
        refine wpFacts_norm (by simp only [Act.put, List.setIfInBounds_toArray, List.set_cons_zero, List.set_cons_succ]; rfl) (by simp only [List.cons_append, List.nil_append]; rfl) ?_
        refine wpFacts_val (by rfl) (fun w1 hL hd K hK => ?_) ?_
        · obtain ⟨c0, c1, c2⟩ := HC1.out w1 hL
          go_simp
          exact hK _ (Lat.refl _)
        refine wpFacts_norm (by simp only [Act.put, List.setIfInBounds_toArray, List.set_cons_zero, List.set_cons_succ]; rfl) (by simp only [List.cons_append, List.nil_append]; rfl) ?_
        refine wpFacts_fact (by rfl) (fun w1 hL hd K hK => ?_) (fun v1 => ?_)
        · go_simp
          refine Calls.mono (HOF.out w1 (HS1.out w1 hL).1) ?_
          rintro e w9 ⟨bo, bc, rfl, hb8, hb9⟩
          exact hK _ _ hb9.out ⟨bo, bc, rfl, hb8.out⟩
        refine wpFacts_norm (by simp only [Act.put, List.setIfInBounds_toArray, List.set_cons_zero, List.set_cons_succ]; rfl) (by simp only [List.cons_append, List.nil_append]; rfl) ?_
        refine wpFacts_val (by rfl) (fun w1 hL hd K hK => ?_) ?_
        · obtain ⟨c0, c1, c2⟩ := HC1.out w1 hL
          go_simp
          exact hK _ (Lat.refl _)
        refine wpFacts_norm (by simp only [Act.put, List.setIfInBounds_toArray, List.set_cons_zero, List.set_cons_succ]; rfl) (by simp only [List.cons_append, List.nil_append]; rfl) ?_
        refine wpFacts_val (by rfl) (fun w1 hL hd K hK => ?_) ?_
        · go_simp
          exact hK _ (Lat.refl _)
        refine wpFacts_norm (by simp only [Act.put, List.setIfInBounds_toArray, List.set_cons_zero, List.set_cons_succ]; rfl) (by simp only [List.cons_append, List.nil_append]; rfl) ?_
        refine wpFacts_fact (by rfl) (fun w1 hL hd K hK => ?_) (fun v3 => ?_)
        · go_simp
          exact hK _ _ (Below.alloc (Below.refl _ _) (Nat.le_refl _) _) ⟨_, rfl, (HS1.out w1 hL).2.1, heap_alloc_new _ _⟩
        refine wpFacts_norm (by simp only [Act.put, List.setIfInBounds_toArray, List.set_cons_zero, List.set_cons_succ]; rfl) (by simp only [List.cons_append, List.nil_append]; rfl) ?_
        refine wpFacts_rel (by rfl) (fun w1 hL hd K hK => ?_) (fun v2 => ?_)
        · obtain ⟨H, rfl, j1, i3⟩ : ∃ H, v3 = .slice (some ⟨H, 0, none⟩) g.names.length g.names.length ∧ w.heap.size + 2 ≤ H ∧ w1.heap[H]? = some (.cells (Array.replicate g.names.length (Value.slice none 0 0)) 31 (0, 0)) := hd.2.2.1
          have HHl : Hid (H < w1.heap.size) := (Array.getElem?_eq_some_iff.1 i3).1
          clear i3
          go_simp
          refine Calls.mono (HFS.out w1 (HS1.out w1 hL).1) ?_
          rintro e w9 ⟨bo, bc, rfl, hb8, hb9⟩
          refine hK _ _ hb9.out ⟨bo, bc, rfl, hb8.out.from (Nat.zero_le _), fun b o l c H' e1 e2 => ?_⟩
          have h1 : w1.heap.size ≤ b := hb8.out.ge b (by rw [e1]; rfl)
          have h2 : H = H' := by
            have e3 : Value.slice (some ⟨H, 0, none⟩) g.names.length g.names.length = .slice (some ⟨H', 0, none⟩) l c := e2
            simp only [Value.slice.injEq, Option.some.injEq, Addr.mk.injEq] at e3
            exact e3.1.1
          have h3 := HHl.out
          omega
        refine wpFacts_norm (by simp only [Act.put, List.setIfInBounds_toArray, List.set_cons_zero, List.set_cons_succ]; rfl) (by simp only [List.cons_append, List.nil_append]; rfl) ?_
        refine wpFacts_val (by rfl) (fun w1 hL hd K hK => ?_) ?_
        · go_simp
          exact hK _ (Lat.refl _)
        refine wpFacts_norm (by simp only [Act.put, List.setIfInBounds_toArray, List.set_cons_zero, List.set_cons_succ]; rfl) (by simp only [List.cons_append, List.nil_append]; rfl) ?_
        refine wpFacts_fact (by rfl) (fun w1 hL hd K hK => ?_) (fun v5 => ?_)
        · go_simp
          exact hK _ _ (Below.alloc (Below.refl _ _) (Nat.le_refl _) _) ⟨_, rfl, (HS1.out w1 hL).2.1, heap_alloc_new _ _⟩
        refine wpFacts_norm (by simp only [Act.put, List.setIfInBounds_toArray, List.set_cons_zero, List.set_cons_succ]; rfl) (by simp only [List.cons_append, List.nil_append]; rfl) ?_
        refine wpFacts_val (by rfl) (fun w1 hL hd K hK => ?_) ?_
        · go_simp
          exact hK _ (Lat.refl _)
        refine wpFacts_norm (by simp only [Act.put, List.setIfInBounds_toArray, List.set_cons_zero, List.set_cons_succ]; rfl) (by simp only [List.cons_append, List.nil_append]; rfl) ?_
        refine wpFacts_val (by rfl) (fun w1 hL hd K hK => ?_) ?_
        · go_simp
          exact hK _ (Lat.refl _)
        refine wpFacts_norm (by simp only [Act.put, List.setIfInBounds_toArray, List.set_cons_zero, List.set_cons_succ]; rfl) (by simp only [List.cons_append, List.nil_append]; rfl) ?_
        refine wpFacts_val (by rfl) (fun w1 hL hd K hK => ?_) ?_
        · go_simp
          exact hK _ (Lat.refl _)
        refine wpFacts_norm (by simp only [Act.put, List.setIfInBounds_toArray, List.set_cons_zero, List.set_cons_succ]; rfl) (by simp only [List.cons_append, List.nil_append]; rfl) ?_
        refine wpFacts_val (by rfl) (fun w1 hL hd K hK => ?_) ?_
        · go_simp
          exact hK _ (Lat.refl _)
        refine wpFacts_norm (by simp only [Act.put, List.setIfInBounds_toArray, List.set_cons_zero, List.set_cons_succ]; rfl) (by simp only [List.cons_append, List.nil_append]; rfl) ?_
        refine wpFacts_fact (by rfl) (fun w1 hL hd K hK => ?_) (fun v11 => ?_)
        · go_simp
          exact hK _ _ (Below.alloc (Below.refl _ _) (Nat.le_refl _) _) ⟨_, rfl, (HS1.out w1 hL).2.1, heap_alloc_new _ _⟩
        refine wpFacts_norm (by simp only [Act.put, List.setIfInBounds_toArray, List.set_cons_zero, List.set_cons_succ]; rfl) (by simp only [List.cons_append, List.nil_append]; rfl) ?_
        refine wpFacts_fact (by rfl) (fun w1 hL hd K hK => ?_) (fun v12 => ?_)
        · obtain ⟨no, nnc, rfl, i1⟩ : ∃ no nnc, v1 = .slice no n nnc ∧ BoolsAt w1.heap.size w1 no (Nl.of g) := hd.2.2.1
          obtain ⟨H, rfl, j1, i3⟩ : ∃ H, v3 = .slice (some ⟨H, 0, none⟩) g.names.length g.names.length ∧ w.heap.size + 2 ≤ H ∧ w1.heap[H]? = some (.cells (Array.replicate g.names.length (Value.slice none 0 0)) 31 (0, 0)) := hd.2.2.2.2.1
          obtain ⟨fo, fc, rfl, i2, ap⟩ : ∃ fo fc, v2 = .slice fo n fc ∧ OwnRows 0 w1 (.slice fo n fc) (Fi.setsG g) ∧ ∀ b o l c H', fo = some ⟨b, o, none⟩ → Value.slice (some ⟨H, 0, none⟩) g.names.length g.names.length = .slice (some ⟨H', 0, none⟩) l c → b ≠ H' := hd.2.2.2.1
          have AP : Hid (∀ b o, fo = some ⟨b, o, none⟩ → b ≠ H) := fun b o e => ap b o _ _ H e rfl
          obtain ⟨S, rfl, j2, i5⟩ : ∃ S, v5 = .slice (some ⟨S, 0, none⟩) g.names.length g.names.length ∧ w.heap.size + 2 ≤ S ∧ w1.heap[S]? = some (.cells (Array.replicate g.names.length (Value.slice none 0 0)) 35 (0, 0)) := hd.2.2.2.2.2.1
          obtain ⟨C, rfl, j3, i7⟩ : ∃ C, v11 = .chan (some C) ∧ w.heap.size + 2 ≤ C ∧ w1.heap[C]? = some (.chan (g.names.length * (g.terms.length + 1)) #[] false 0 0 false) := hd.2.2.2.2.2.2.1
          have IJ : Hid (BoolsAt w1.heap.size w1 no (Nl.of g) ∧ OwnRows 0 w1 (.slice fo n fc) (Fi.setsG g) ∧ w1.heap[H]? = some (.cells (Array.replicate g.names.length (Value.slice none 0 0)) 31 (0, 0)) ∧ w1.heap[S]? = some (.cells (Array.replicate g.names.length (Value.slice none 0 0)) 35 (0, 0)) ∧ w1.heap[C]? = some (.chan (g.names.length * (g.terms.length + 1)) #[] false 0 0 false) ∧ ∀ b o, fo = some ⟨b, o, none⟩ → b ≠ H) := ⟨i1, i2, i3, i5, i7, AP.out⟩
          clear i1 i2 i3 i5 i7 ap AP
          go_simp
          exact hK _ _ (Lat.refl _) ⟨no, fo, nnc, fc, H, S, C, rfl, ⟨j1, j2, j3⟩, IJ.out⟩
        refine wpFacts_norm (by simp only [Act.put, List.setIfInBounds_toArray, List.set_cons_zero, List.set_cons_succ]; rfl) (by simp only [List.cons_append, List.nil_append]; rfl) ?_
        refine wpFacts_fact (by rfl) (fun w1 hL hd K hK => ?_) (fun v13 => ?_)
        · go_simp
          exact hK _ _ (Below.alloc (Below.refl _ _) (Nat.le_refl _) _) ⟨_, rfl, (HS1.out w1 hL).2.1, heap_alloc_new _ _⟩
        refine wpFacts_norm (by simp only [Act.put, List.setIfInBounds_toArray, List.set_cons_zero, List.set_cons_succ]; rfl) (by simp only [List.cons_append, List.nil_append]; rfl) ?_
        intro w1 hL ha
        obtain ⟨no, fo, nnc, fc, H, S, C, rfl, hlt, i1, i2, i3, i5, i7, AP⟩ : ∃ no fo nnc fc H S C, v12 = .agg (foCells g.terms.length n no fo nnc fc H S C g.names.length) ∧ (w.heap.size + 2 ≤ H ∧ w.heap.size + 2 ≤ S ∧ w.heap.size + 2 ≤ C) ∧ BoolsAt w1.heap.size w1 no (Nl.of g) ∧ OwnRows 0 w1 (.slice fo n fc) (Fi.setsG g) ∧ w1.heap[H]? = some (.cells (Array.replicate g.names.length (Value.slice none 0 0)) 31 (0, 0)) ∧ w1.heap[S]? = some (.cells (Array.replicate g.names.length (Value.slice none 0 0)) 35 (0, 0)) ∧ w1.heap[C]? = some (.chan (g.names.length * (g.terms.length + 1)) #[] false 0 0 false) ∧ ∀ b o, fo = some ⟨b, o, none⟩ → b ≠ H := allHold_get 17 ha rfl rfl
        obtain ⟨b, rfl, hbM, hbk⟩ : ∃ b, v13 = .pointer (some ⟨b, 0, none⟩) ∧ w.heap.size + 2 ≤ b ∧ w1.heap[b]? = some (.cells #[.int .i64 0, .int .i64 0, .slice none 0 0, .slice none 0 0, .slice none 0 0, .slice none 0 0, .chan none] 57 (0, 0)) := allHold_get 18 ha rfl rfl
        clear ha
        have HI : Hid (FoMade g ⟨ta, tc, na, nc, ra, rac⟩ n no fo nnc fc H S C b w (((((((w1.setCell ⟨b, 0, none⟩ (.int .i64 (g.terms.length : Int))).setCell ⟨b, 1, none⟩ (.int .i64 (n : Int))).setCell ⟨b, 2, none⟩ (.slice no n nnc)).setCell ⟨b, 3, none⟩ (.slice fo n fc)).setCell ⟨b, 4, none⟩ (.slice (some ⟨H, 0, none⟩) g.names.length g.names.length)).setCell ⟨b, 5, none⟩ (.slice (some ⟨S, 0, none⟩) g.names.length g.names.length)).setCell ⟨b, 6, none⟩ (.chan (some C)))) := fomade_set hlt i1 i2 i3 i5 i7 AP hbM hbk (HS1.out w1 hL).1 (by rw [(HS1.out w1 hL).2.2.block _ (by rw [hWs.out]; omega)]; exact b0.out) (by rw [(HS1.out w1 hL).2.2.block _ (by rw [hWs.out]; omega)]; exact b1.out)
        obtain ⟨⟨c0, c1, c2, c3, c4, c5, c6⟩, z0, z1, z2, z3, z4, z5, z6⟩ := cells_seven_z hbk
        have hbl := (Array.getElem?_eq_some_iff.1 hbk).1
        clear i1 i2 i3 i5 i7 AP hbk hL HS1 HC1 b0 b1 hWs hB hml hmb hmc hwm hws hwt hwn2 HOF HFS
        simp only [foCells]
        go_upto_region 3 with fail
        generalize (((((((w1.setCell ⟨b, 0, none⟩ (.int .i64 (g.terms.length : Int))).setCell ⟨b, 1, none⟩ (.int .i64 (n : Int))).setCell ⟨b, 2, none⟩ (.slice no n nnc)).setCell ⟨b, 3, none⟩ (.slice fo n fc)).setCell ⟨b, 4, none⟩ (.slice (some ⟨H, 0, none⟩) g.names.length g.names.length)).setCell ⟨b, 5, none⟩ (.slice (some ⟨S, 0, none⟩) g.names.length g.names.length)).setCell ⟨b, 6, none⟩ (.chan (some C))) = W2 at *
        clear c0 c1 c2 c3 c4 c5 c6 z0 z1 z2 z3 z4 z5 z6 hbl
        have hsb2 : W2.heap[b]? = some (.cells #[.int .i64 (g.terms.length : Int), .int .i64 (n : Int), .slice no n nnc, .slice fo n fc, .slice (some ⟨H, 0, none⟩) g.names.length g.names.length, .slice (some ⟨S, 0, none⟩) g.names.length g.names.length, .chan (some C)] 57 (0, 0)) := HI.out.sb
        obtain ⟨⟨c0, c1, c2, c3, c4, c5, c6⟩, _⟩ := cells_seven_z hsb2
        have hbl2 := (Array.getElem?_eq_some_iff.1 hsb2).1
        have NBS : b ≠ S := fun e => by
          have h1 := hsb2
          rw [e, HI.out.ssb] at h1
          exact absurd (Obj.cells.inj (Option.some.inj h1)).2.1 (by decide)
        have hme : ∀ W : World, (Instr.makeSlice 35 (.int .i64 ((n : Int) + 1)) (.int .i64 ((n : Int) + 1))).run Tryz.prog W = .ok (.slice (some ⟨W.heap.size, 0, none⟩) (n + 1) (n + 1)) (W.alloc (.cells (Array.replicate (n + 1) (Value.bool false)) 4)) := fun W => by
          have := make_boolsN (n + 1) (by omega) W
          rw [show ((n + 1 : Nat) : Int) = (n : Int) + 1 from by omega] at this
          exact this
        go_wp2_with fail
        go_loopw [38] (fun i wr => ∃ (k : Nat) (Bs : List Nat), k ≤ g.names.length ∧ i = .int .i64 k ∧ Bs.length = k ∧ Hid (FRows W2 wr S (n + 1) g.names.length Bs)) (fun i _ => g.names.length - (intOf i).toNat)
        case atStart => exact ⟨0, [], Nat.zero_le _, rfl, rfl, ⟨ButL.refl _ _, by rw [HI.out.ssb]; simp [hdrs], fun b hb => by simp at hb, List.nodup_nil⟩⟩
        case round =>
          obtain ⟨k, Bs, hk, rfl, hBs, hR⟩ := hrel
          clear c0 c1 c2 c3 c4 c5 c6
          have hsb4 : wr.heap[b]? = some (.cells #[.int .i64 (g.terms.length : Int), .int .i64 (n : Int), .slice no n nnc, .slice fo n fc, .slice (some ⟨H, 0, none⟩) g.names.length g.names.length, .slice (some ⟨S, 0, none⟩) g.names.length g.names.length, .chan (some C)] 57 (0, 0)) := (hR.out.but.block b hbl2 (by simpa using NBS)).trans hsb2
          have hbl4 := (Array.getElem?_eq_some_iff.1 hsb4).1
          by_cases hkl : k < g.names.length
          · have hki : (k : Int) < (g.names.length : Int) := by omega
            have HC : Hid (∀ w1 : World, Lat wr.drew w1 → w1.cell? ⟨b, 5, none⟩ = some (.slice (some ⟨S, 0, none⟩) g.names.length g.names.length) ∧ w1.cell? ⟨b, 1, none⟩ = some (.int .i64 (n : Int))) := fun w1 hL => by
              have h := cells_seven_z ((hL.of_drew.block _ hbl4).trans hsb4)
              exact ⟨h.1.2.2.2.2.2.1, h.1.2.1⟩
            have hSl := (Array.getElem?_eq_some_iff.1 hR.out.sb).1
            go_upto_region 6 with fail
            refine wp_region_lat [.val (.pointer (some ⟨b, 5, none⟩)), .val (.slice (some ⟨S, 0, none⟩) g.names.length g.names.length), .val (.int .i64 (k : Int)), .val (.pointer (some ⟨b, 1, none⟩)), .val (.int .i64 (n : Int)), .val (.int .i64 ((n : Int) + 1)),
              .fact (fun v w' => ∃ B, v = .slice (some ⟨B, 0, none⟩) (n + 1) (n + 1) ∧ wr.heap.size ≤ B ∧ w'.heap[B]? = some (.cells (Array.replicate (n + 1) (Value.bool false)) 4 (0, 0))),
              .val (.pointer (some ⟨S, k, none⟩))] [_] (by kernel_rfl) (by kernel_rfl) rfl ?kept3 ?walk3
            case kept3 => exact ⟨fun v w1 w2 hL ⟨d, e, h1, h2⟩ => ⟨d, e, h1, by rw [hL.block _ (Array.getElem?_eq_some_iff.1 h2).1]; exact h2⟩, trivial⟩
            case walk3 =>
              refine wpFacts_val (by rfl) (fun w1 hL hd K hK => ?_) ?_
              · go_simp
                exact hK _ (Lat.refl _)
              refine wpFacts_norm (by simp only [Act.put, List.setIfInBounds_toArray, List.set_cons_zero, List.set_cons_succ]; rfl) (by simp only [List.nil_append]; rfl) ?_
              refine wpFacts_val (by rfl) (fun w1 hL hd K hK => ?_) ?_
              · obtain ⟨d0, d1⟩ := HC.out w1 hL
                go_simp
                exact hK _ (Lat.refl _)
              refine wpFacts_norm (by simp only [Act.put, List.setIfInBounds_toArray, List.set_cons_zero, List.set_cons_succ]; rfl) (by simp only [List.cons_append, List.nil_append]; rfl) ?_
              refine wpFacts_val (by rfl) (fun w1 hL hd K hK => ?_) ?_
              · go_simp
                exact hK _ (Lat.refl _)
              refine wpFacts_norm (by simp only [Act.put, List.setIfInBounds_toArray, List.set_cons_zero, List.set_cons_succ]; rfl) (by simp only [List.cons_append, List.nil_append]; rfl) ?_
              refine wpFacts_val (by rfl) (fun w1 hL hd K hK => ?_) ?_
              · go_simp
                exact hK _ (Lat.refl _)
              refine wpFacts_norm (by simp only [Act.put, List.setIfInBounds_toArray, List.set_cons_zero, List.set_cons_succ]; rfl) (by simp only [List.cons_append, List.nil_append]; rfl) ?_
              refine wpFacts_val (by rfl) (fun w1 hL hd K hK => ?_) ?_
              · obtain ⟨d0, d1⟩ := HC.out w1 hL
                go_simp
                exact hK _ (Lat.refl _)
              refine wpFacts_norm (by simp only [Act.put, List.setIfInBounds_toArray, List.set_cons_zero, List.set_cons_succ]; rfl) (by simp only [List.cons_append, List.nil_append]; rfl) ?_
              refine wpFacts_val (by rfl) (fun w1 hL hd K hK => ?_) ?_
              · go_simp
                exact hK _ (Lat.refl _)
              refine wpFacts_norm (by simp only [Act.put, List.setIfInBounds_toArray, List.set_cons_zero, List.set_cons_succ]; rfl) (by simp only [List.cons_append, List.nil_append]; rfl) ?_
              refine wpFacts_fact (by rfl) (fun w1 hL hd K hK => ?_) (fun v6 => ?_)
              · go_simp
                exact hK _ _ (Below.alloc (Below.refl _ _) (Nat.le_refl _) _) ⟨_, rfl, hL.of_drew.size, heap_alloc_new _ _⟩
              refine wpFacts_norm (by simp only [Act.put, List.setIfInBounds_toArray, List.set_cons_zero, List.set_cons_succ]; rfl) (by simp only [List.cons_append, List.nil_append]; rfl) ?_
              refine wpFacts_val (by rfl) (fun w1 hL hd K hK => ?_) ?_
              · go_simp
                exact hK _ (Lat.refl _)
              refine wpFacts_norm (by simp only [Act.put, List.setIfInBounds_toArray, List.set_cons_zero, List.set_cons_succ]; rfl) (by simp only [List.cons_append, List.nil_append]; rfl) ?_
              intro w1 hL ha
              obtain ⟨B, rfl, hB1, hB2⟩ : ∃ B, v6 = .slice (some ⟨B, 0, none⟩) (n + 1) (n + 1) ∧ wr.heap.size ≤ B ∧ w1.heap[B]? = some (.cells (Array.replicate (n + 1) (Value.bool false)) 4 (0, 0)) := allHold_get 6 ha rfl rfl
              clear ha
              have hS1 : w1.heap[S]? = some (.cells (hdrs Bs (n + 1) g.names.length).toArray 35 (0, 0)) := (hL.of_drew.block _ hSl).trans hR.out.sb
              have f0 : w1.frozen? ⟨S, k, none⟩ = false := by simp [World.frozen?, hS1]
              have hS1l := (Array.getElem?_eq_some_iff.1 hS1).1
              have hkh : k < (hdrs Bs (n + 1) g.names.length).length := by rw [hdrs_len _ _ _ (by omega)]; exact hkl
              have c0 : w1.cell? ⟨S, k, none⟩ = some ((hdrs Bs (n + 1) g.names.length)[k]) := by simp [World.cell?, hS1, hkh]
              have hN : Hid (FRows W2 (w1.setCell ⟨S, k, none⟩ (.slice (some ⟨B, 0, none⟩) (n + 1) (n + 1))) S (n + 1) g.names.length (Bs ++ [B])) := by
                have := hR.out.push (by omega) hL.of_drew hB1 hB2 (Array.getElem?_eq_some_iff.1 HI.out.ssb).1
                rw [hBs] at this
                exact this
              clear hB1 hB2 hS1 hL hR HC hsb4 hbl4
              go_wp2_with fail
              go_roundw
              case rel => exact ⟨k + 1, _, by omega, by go_num, by simp [hBs], hN⟩
              case measure => simp [intOf]; omega
          · obtain rfl : k = g.names.length := by omega
            have hki : ¬ (g.names.length : Int) < (g.names.length : Int) := by omega
            have R4 : Hid (RowsAt S (n + 1) Bs (List.replicate g.names.length (List.replicate (n + 1) false)) wr) := hR.out.done hBs
            have NSC : C ≠ S := fun e => by
              have h1 := HI.out.ch
              rw [e, HI.out.ssb] at h1; cases h1
            have NHS : H ≠ S := fun e => by
              have h1 := HI.out.hb
              rw [e, HI.out.ssb] at h1
              exact absurd (Obj.cells.inj (Option.some.inj h1)).2.1 (by decide)
            have BK : Hid (∀ k, k < W2.heap.size → k ≠ S → wr.heap[k]? = W2.heap[k]?) := fun k hk hne => hR.out.but.block k hk (by simpa using hne)
            have C4 : Hid (wr.heap[C]? = some (.chan (g.names.length * (g.terms.length + 1)) #[] false 0 0 false)) := (BK.out C (Array.getElem?_eq_some_iff.1 HI.out.ch).1 NSC).trans HI.out.ch
            have GB4 : Hid (wr.heap[w.heap.size]? = some (.cells #[.slice ta g.terms.length tc, .slice na g.names.length nc, .slice ra g.rules.length rac] 25 (0, 0))) := (BK.out _ (Array.getElem?_eq_some_iff.1 HI.out.gb).1 (by have := HI.out.lt; omega)).trans HI.out.gb
            have RB4 : Hid (wr.heap[w.heap.size + 1]? = some (.cells #[.int .i64 0, .int .i64 0, .slice none 0 0, .slice none 0 0, .slice none 0 0, .slice none 0 0, .chan none] 57 (0, 0))) := (BK.out _ (Array.getElem?_eq_some_iff.1 HI.out.rb).1 (by have := HI.out.lt; omega)).trans HI.out.rb
            have H4 : Hid (wr.heap[H]? = some (.cells (Array.replicate g.names.length (Value.slice none 0 0)) 31 (0, 0))) := (BK.out H (Array.getElem?_eq_some_iff.1 HI.out.hb).1 NHS).trans HI.out.hb
            have O4 : Hid (OwnRows 0 wr (.slice fo n fc) (Fi.setsG g)) := HI.out.fst.but HI.out.ssb (by decide) (by decide) BK.out
            have N4 : Hid (BoolsAt W2.heap.size wr no (Nl.of g)) := BoolsAt.keep HI.out.nul hR.out.but.size fun q o y hk hc => BK.out q hk fun e => by
              subst e
              have := cell_in HI.out.ssb hc
              simp at this
            have BSG : Hid (∀ q ∈ Bs, W2.heap.size ≤ q ∧ q < wr.heap.size) := fun q hq => ⟨(hR.out.row q hq).1, (Array.getElem?_eq_some_iff.1 (hR.out.row q hq).2).1⟩
            have W2S : Hid (W2.heap.size ≤ wr.heap.size) := hR.out.but.size
            have BW4 : Hid (Below w.heap.size w wr) := HI.out.below.trans (hR.out.but.below (fun q hq => by rw [List.mem_singleton] at hq; have := HI.out.lt; omega) HI.out.below.size)
            have L4 : Hid (LAt wr.heap.size H (List.replicate g.names.length (.slice none 0 0)) (List.replicate g.names.length []) wr) := LAt.start H4.out
            have G4 : Hid (GAt S C (n + 1) (g.names.length * (g.terms.length + 1)) Bs ⟨List.replicate g.names.length (List.replicate (n + 1) false), []⟩ wr) := ⟨R4.out, 0, 0, by rw [C4.out]; rfl⟩
            have SB4 : Hid (wr.heap[b]? = some (.cells #[.int .i64 (g.terms.length : Int), .int .i64 (n : Int), .slice no n nnc, .slice fo n fc, .slice (some ⟨H, 0, none⟩) g.names.length g.names.length, .slice (some ⟨S, 0, none⟩) g.names.length g.names.length, .chan (some C)] 57 (0, 0))) := hsb4
            have AP : Hid (∀ b o, fo = some ⟨b, o, none⟩ → b ≠ H) := HI.out.apart
            have LT : Hid (w.heap.size + 2 ≤ H ∧ w.heap.size + 2 ≤ S ∧ w.heap.size + 2 ≤ C ∧ w.heap.size + 2 ≤ b) := HI.out.lt
            have MW : Hid (w.heap.size + 2 ≤ W2.heap.size) := (Array.getElem?_eq_some_iff.1 HI.out.rb).1
            have NI : Hid (∀ (k : Nat) (cs : Array Value) (t : TypeId) (fr : Nat × Nat), wr.heap[k]? = some (.cells cs t fr) → t ≠ 4 → t ≠ 31 → k ∉ H :: C :: Bs) := fun k cs t fr hk h1 h2 q => by
              rcases List.mem_cons.1 q with q | q
              · rw [q, H4.out] at hk
                exact h2 (Obj.cells.inj (Option.some.inj hk)).2.1.symm
              · rcases List.mem_cons.1 q with q | q
                · rw [q, C4.out] at hk; cases hk
                · obtain ⟨i, hi, rfl⟩ := List.getElem_of_mem q
                  rw [R4.out.row i hi] at hk
                  exact h1 (Obj.cells.inj (Option.some.inj hk)).2.1.symm
            have NB : Hid (b ∉ H :: C :: Bs) := NI.out b _ _ _ SB4.out (by decide) (by decide)
            have NG : Hid (w.heap.size ∉ H :: C :: Bs) := NI.out _ _ _ _ GB4.out (by decide) (by decide)
            have NR : Hid (w.heap.size + 1 ∉ H :: C :: Bs) := NI.out _ _ _ _ RB4.out (by decide) (by decide)
            have LOW : Hid (∀ q ∈ H :: C :: Bs, w.heap.size ≤ q) := fun q hq => by
              have h1 := LT.out
              rcases List.mem_cons.1 hq with q | hq
              · omega
              · rcases List.mem_cons.1 hq with q | hq
                · omega
                · have := BSG.out _ hq; have := MW.out; omega
            have LTM : Hid (H < wr.heap.size ∧ S < wr.heap.size ∧ C < wr.heap.size ∧ ∀ b ∈ Bs, b < wr.heap.size) := ⟨(Array.getElem?_eq_some_iff.1 H4.out).1, R4.out.lt.1, (Array.getElem?_eq_some_iff.1 C4.out).1, fun q hq => (BSG.out q hq).2⟩
            obtain ⟨⟨c0, c1, c2, c3, c4, c5, c6⟩, _⟩ := cells_seven_z SB4.out
            obtain ⟨g0, g1, g2, _⟩ := cells_three_z GB4.out
            clear hR hsb4 BK hme HI hsb2 NBS NSC NHS NI hbl2 hwn
            rename World => W3
            go_wp2_with fail
            clear g0 g1 g2 c0 c1 c2 c3 c4 c5 c6
            go_loopw [53] (fun iv wr => ∃ (i : Nat) (st : Fi.St) (vs : List Value) (hs : List (List Int)), i ≤ g.rules.length ∧ iv = .int .i64 i ∧ Hid (Amid W3.heap.size (H :: C :: Bs) W3 wr) ∧ Hid (GAt S C (n + 1) (g.names.length * (g.terms.length + 1)) Bs st wr) ∧ Hid (LAt W3.heap.size H vs hs wr) ∧ Hid (Fo.Bg g.rules (Nl.of g) g.terms.length n g.names.length i 0 st hs)) (fun i _ => g.rules.length - (intOf i).toNat)
            case atStart => exact ⟨0, _, _, _, Nat.zero_le _, rfl, Amid.refl _ _ _, G4, L4, Fo.Bg.start⟩
            case round =>
              obtain ⟨i, st, vs, hs, hi, rfl, hA, hG, hL, hBg⟩ := hrel
              clear L4
              have sb5 : Hid (wr.heap[b]? = some (.cells #[.int .i64 (g.terms.length : Int), .int .i64 (n : Int), .slice no n nnc, .slice fo n fc, .slice (some ⟨H, 0, none⟩) g.names.length g.names.length, .slice (some ⟨S, 0, none⟩) g.names.length g.names.length, .chan (some C)] 57 (0, 0))) := (hA.out.block b (Array.getElem?_eq_some_iff.1 SB4.out).1 NB.out).trans SB4.out
              have BW5 : Hid (Below w.heap.size w wr) := BW4.out.trans (hA.out.below LOW.out BW4.out.size)
              by_cases hil : i < g.rules.length
              · have hii : (i : Int) < (g.rules.length : Int) := by omega
                obtain ⟨rb, ro, xo, xc, rfl, _, _, k0, k1, ki, hxc, _⟩ := HG.out.rules i hil
                replace k0 := cell_later BW5.out k0
                replace k1 := cell_later BW5.out k1
                have hmm : g.rules[i] ∈ g.rules := List.getElem_mem hil
                have h8 := H8.out _ hmm
                have hin := HF.out.right _ hmm
                have hlf := HF.out.left _ hmm
                have KI : Hid (IntsAt w.heap.size w xo g.rules[i].2) := ki
                have STEP : Hid (∀ (k : Nat) (hk : k < g.rules[i].2.length) (st : Fi.St) (hs : List (List Int)), (g.terms.length : Int) ≤ g.rules[i].2[k] → Fo.Bg g.rules (Nl.of g) g.terms.length n g.names.length i k st hs → Fo.Bg g.rules (Nl.of g) g.terms.length n g.names.length i (k + 1) (Fo.look (Nl.of g) (Fi.setsG g) (g.rules[i].2[k] - g.terms.length) (g.rules[i].2.drop (k + 1)) st) (Fo.heirs (Nl.of g) (g.rules[i].1 - g.terms.length) (g.rules[i].2[k] - g.terms.length) (g.rules[i].2.drop (k + 1)) hs)) := fun k hk st hs hx h => h.step HF.out hn (fun s hs' t => Fi.setsG_mem hg s (by omega) t) hil hk hx
                have SKIP : Hid (∀ (k : Nat) (hk : k < g.rules[i].2.length) (st : Fi.St) (hs : List (List Int)), g.rules[i].2[k] < (g.terms.length : Int) → Fo.Bg g.rules (Nl.of g) g.terms.length n g.names.length i k st hs → Fo.Bg g.rules (Nl.of g) g.terms.length n g.names.length i (k + 1) st hs) := fun k hk st hs hx h => h.skip hil hk hx
                have RULE : Hid (∀ (st : Fi.St) (hs : List (List Int)), Fo.Bg g.rules (Nl.of g) g.terms.length n g.names.length i g.rules[i].2.length st hs → Fo.Bg g.rules (Nl.of g) g.terms.length n g.names.length (i + 1) 0 st hs) := fun st hs h => Fo.Bg.rule hil h8 h
                clear ki hmm
                generalize g.rules[i] = y at *
                obtain ⟨l, rs⟩ := y
                simp only at k0 k1 h8 hin hxc hlf
                obtain ⟨lm, hlm⟩ : ∃ lm : Nat, l - (g.terms.length : Int) = (lm : Int) := ⟨(l - (g.terms.length : Int)).toNat, by omega⟩
                have hlN : lm < g.names.length := by omega
                have hbn : Hid (Below wr.heap.size wr (wr.alloc (Obj.cells #[.int .i64 l, .slice xo rs.length xc] 43))) := (Below.refl _ wr).alloc (Nat.le_refl _) _
                have kn : Hid ((wr.alloc (Obj.cells #[.int .i64 l, .slice xo rs.length xc] 43)).heap[wr.heap.size]? = some (.cells #[.int .i64 l, .slice xo rs.length xc] 43 (0, 0))) := heap_alloc_new wr _
                have hA2 : Hid (Amid W3.heap.size (H :: C :: Bs) W3 (wr.alloc (Obj.cells #[.int .i64 l, .slice xo rs.length xc] 43))) := hA.out.trans (Amid.of hbn.out hA.out.size)
                have hG2 : Hid (GAt S C (n + 1) (g.names.length * (g.terms.length + 1)) Bs st (wr.alloc (Obj.cells #[.int .i64 l, .slice xo rs.length xc] 43))) := hG.out.later hbn.out
                have hL2 : Hid (LAt W3.heap.size H vs hs (wr.alloc (Obj.cells #[.int .i64 l, .slice xo rs.length xc] 43))) := hL.out.later hbn.out
                have hsz3 : Hid (W3.heap.size ≤ wr.heap.size) := hA.out.size
                have hBg2 : Hid (Fo.Bg g.rules (Nl.of g) g.terms.length n g.names.length i 0 st hs) := hBg
                have hin2 : Hid _ := hin
                clear hA hG hL hBg hbn sb5 BW5 hin
                have hwrl : wr.heap.size < (wr.alloc (Obj.cells #[.int .i64 l, .slice xo rs.length xc] 43)).heap.size := by simp
                go_upto_region 11 with fail
                clear k0 k1
                generalize (wr.alloc (Obj.cells #[.int .i64 l, .slice xo rs.length xc] 43)) = W4 at *
                generalize wr.heap.size = R at *
                obtain ⟨r0, r1, _⟩ := cells_two_z kn.out
                go_wp2_with fail
                clear r0 r1
                go_loopw [60] (fun kv wq => ∃ (k : Nat) (st : Fi.St) (vs : List Value) (hs : List (List Int)), k ≤ rs.length ∧ kv = .int .i64 k ∧ Hid (Amid W3.heap.size (H :: C :: Bs) W3 wq) ∧ Hid (GAt S C (n + 1) (g.names.length * (g.terms.length + 1)) Bs st wq) ∧ Hid (LAt W3.heap.size H vs hs wq) ∧ Hid (Fo.Bg g.rules (Nl.of g) g.terms.length n g.names.length i k st hs) ∧ Hid (wq.heap[R]? = some (.cells #[.int .i64 l, .slice xo rs.length xc] 43 (0, 0)))) (fun i _ => rs.length - (intOf i).toNat)
                case atStart => exact ⟨0, st, vs, hs, Nat.zero_le _, rfl, hA2, hG2, hL2, hBg2, kn⟩
                case round =>
                  obtain ⟨k, st', vs', hs', hk, rfl, hA3, hG3, hL3, hBg3, hR3⟩ := hrel
                  clear hA2 hG2 hL2 hBg2 kn
                  have sb6 : Hid (wr.heap[b]? = some (.cells #[.int .i64 (g.terms.length : Int), .int .i64 (n : Int), .slice no n nnc, .slice fo n fc, .slice (some ⟨H, 0, none⟩) g.names.length g.names.length, .slice (some ⟨S, 0, none⟩) g.names.length g.names.length, .chan (some C)] 57 (0, 0))) := (hA3.out.block b (Array.getElem?_eq_some_iff.1 SB4.out).1 NB.out).trans SB4.out
                  have BW6 : Hid (Below w.heap.size w wr) := BW4.out.trans (hA3.out.below LOW.out BW4.out.size)
                  by_cases hkl : k < rs.length
                  · have hki : (k : Int) < (rs.length : Int) := by omega
                    have KW : Hid (IntsAt w.heap.size wr xo rs) := KI.out.later BW6.out
                    obtain ⟨xb, xof, rfl, _, _, x0⟩ := IntsAt.get KW.out k hkl
                    have hx := hin2.out _ (List.getElem_mem hkl)
                    have ST2 : Hid (∀ (st : Fi.St) (hs : List (List Int)), (g.terms.length : Int) ≤ rs[k] → Fo.Bg g.rules (Nl.of g) g.terms.length n g.names.length i k st hs → Fo.Bg g.rules (Nl.of g) g.terms.length n g.names.length i (k + 1) (Fo.look (Nl.of g) (Fi.setsG g) (rs[k] - g.terms.length) (rs.drop (k + 1)) st) (Fo.heirs (Nl.of g) (l - g.terms.length) (rs[k] - g.terms.length) (rs.drop (k + 1)) hs)) := fun st hs => STEP.out k hkl st hs
                    have SK2 : Hid (∀ (st : Fi.St) (hs : List (List Int)), rs[k] < (g.terms.length : Int) → Fo.Bg g.rules (Nl.of g) g.terms.length n g.names.length i k st hs → Fo.Bg g.rules (Nl.of g) g.terms.length n g.names.length i (k + 1) st hs) := fun st hs => SKIP.out k hkl st hs
                    generalize rs[k] = x at *
                    by_cases hxT : x < (g.terms.length : Int)
                    · have hxd : ¬ (g.terms.length : Int) ≤ x := by omega
                      have BN : Hid _ := SK2.out st' hs' hxT hBg3.out
                      clear ST2 SK2 hBg3 KW sb6 BW6
                      go_wp2_with fail
                      go_roundw
                      case rel => exact ⟨k + 1, st', vs', hs', by omega, by go_num, hA3, hG3, hL3, BN, hR3⟩
                      case measure => simp [intOf]; omega
                    · have hxd : (g.terms.length : Int) ≤ x := by omega
                      have BN0 := ST2.out st' hs' hxd hBg3.out
                      rw [hlm] at BN0
                      obtain ⟨xm, hxm⟩ : ∃ xm : Nat, x - (g.terms.length : Int) = (xm : Int) := ⟨(x - (g.terms.length : Int)).toNat, by omega⟩
                      have hxN : xm < g.names.length := by omega
                      rw [hxm] at BN0
                      obtain ⟨row, hrow⟩ : ∃ row, rs.drop (k + 1) = row := ⟨_, rfl⟩
                      have hrl : row.length = rs.length - (k + 1) := by rw [← hrow, List.length_drop]
                      rw [hrow] at BN0
                      have BN : Hid _ := BN0
                      obtain ⟨so, hso⟩ : ∃ so, (if xc = k + 1 then some (⟨xb, xof, none⟩ : Addr) else some ⟨xb, xof + (k + 1), none⟩) = so := ⟨_, rfl⟩
                      have hsl : ∀ W : World, (Instr.slice 31 (.slice (some ⟨xb, xof, none⟩) rs.length xc) (some (.int .i64 ((k : Int) + 1))) none none).run Tryz.prog W = .ok (.slice so row.length (xc - (k + 1))) W := fun W => by
                        have := slice_tailI xb xof rs.length xc (k + 1) (by omega) W
                        rw [hso, ← hrl, show ((k + 1 : Nat) : Int) = (k : Int) + 1 from by omega] at this
                        exact this
                      have hw1 : IntKind.wrap .i64 (l - (g.terms.length : Int)) = (lm : Int) := by rw [hlm, IntKind.wrap_i64]; omega
                      have hw2 : IntKind.wrap .i64 (x - (g.terms.length : Int)) = (xm : Int) := by rw [hxm, IntKind.wrap_i64]; omega
                      have hw4 : IntKind.wrap .i64 (lm : Int) = (lm : Int) := by rw [IntKind.wrap_i64]; omega
                      have hw5 : IntKind.wrap .i64 (xm : Int) = (xm : Int) := by rw [IntKind.wrap_i64]; omega
                      have hw3 : IntKind.wrap .i64 ((k : Int) + 1) = (k : Int) + 1 := by rw [IntKind.wrap_i64]; omega
                      have ROW : Hid (∀ W : World, IntsAt w.heap.size W (some ⟨xb, xof, none⟩) rs → IntsAt w.heap.size W so row) := fun W h j hj => by
                        have hj' : j < row.length := by simpa using hj
                        have hjr : k + 1 + j < rs.length := by omega
                        obtain ⟨b', o', e, h1, h2, h3⟩ := IntsAt.get h (k + 1 + j) hjr
                        simp only [Option.some.injEq, Addr.mk.injEq] at e
                        obtain ⟨rfl, rfl, _⟩ := e
                        have hne : ¬ xc = k + 1 := by omega
                        rw [if_neg hne] at hso
                        refine ⟨_, _, hso.symm, h1, h2, ?_⟩
                        rw [List.getElem_map, show xof + (k + 1) + j = xof + (k + 1 + j) from by omega, h3]
                        congr 2
                        simp only [← hrow, List.getElem_drop]
                      have hbl6 := (Array.getElem?_eq_some_iff.1 sb6.out).1
                      have HC : Hid (∀ w1 : World, Lat wr.drew w1 → w1.heap[b]? = some (.cells #[.int .i64 (g.terms.length : Int), .int .i64 (n : Int), .slice no n nnc, .slice fo n fc, .slice (some ⟨H, 0, none⟩) g.names.length g.names.length, .slice (some ⟨S, 0, none⟩) g.names.length g.names.length, .chan (some C)] 57 (0, 0)) ∧ w1.heap[R]? = some (.cells #[.int .i64 l, .slice (some ⟨xb, xof, none⟩) rs.length xc] 43 (0, 0))) := fun w1 hL => ⟨(hL.of_drew.block _ hbl6).trans sb6.out, (hL.of_drew.block _ (Array.getElem?_eq_some_iff.1 hR3.out).1).trans hR3.out⟩
                      have HROW : Hid (rs.drop (k + 1) = row) := hrow
                      have HRL : Hid (row.length ≤ 8) := by show _ ≤ _; omega
                      have BOK : Hid (Fo.Ok g.terms.length n g.names.length st') := hBg3.out.ok
                      have BHL : Hid (hs'.length = g.names.length) := hBg3.out.hlen
                      have BSM : Hid (∀ a : Nat, (hs'.getD a []).length ≤ 8 * i + k) := hBg3.out.small
                      have NRR : Hid (R ∉ H :: C :: Bs) := fun q => by
                        rcases List.mem_cons.1 q with q | q
                        · have h := hR3.out
                          rw [q, hL3.out.lb] at h
                          exact absurd (Obj.cells.inj (Option.some.inj h)).2.1 (by decide)
                        · exact hG3.out.apart (cells_two_z hR3.out).1 (by simp) q
                      clear hrow hrl ST2 SK2 hBg3 BN0
                      go_upto_region 15 with fail
                      refine wp_region_lat [.val (.agg #[.int .i64 (g.terms.length : Int), .int .i64 (n : Int), .slice no n nnc, .slice fo n fc, .slice (some ⟨H, 0, none⟩) g.names.length g.names.length, .slice (some ⟨S, 0, none⟩) g.names.length g.names.length, .chan (some C)]), .val (.pointer (some ⟨R, 0, none⟩)), .val (.int .i64 l), .val (.int .i64 (g.terms.length : Int)), .val (.int .i64 (lm : Int)), .val (.int .i64 x), .val (.int .i64 (g.terms.length : Int)), .val (.int .i64 (xm : Int)), .val (.pointer (some ⟨R, 1, none⟩)), .val (.slice (some ⟨xb, xof, none⟩) rs.length xc), .val (.int .i64 (k : Int)), .val (.int .i64 ((k : Int) + 1)), .val (.slice so row.length (xc - (k + 1)))] [_] (by kernel_rfl) (by kernel_rfl) rfl ?kept5 ?walk5
                      case kept5 => exact trivial
                      case walk5 =>
                        refine wpFacts_val (by rfl) (fun w1 hL hd K hK => ?_) ?_
                        · obtain ⟨⟨c0, c1, c2, c3, c4, c5, c6⟩, _⟩ := cells_seven_z (HC.out w1 hL).1
                          go_simp
                          exact hK _ (Lat.refl _)
                        refine wpFacts_norm (by simp only [Act.put, List.setIfInBounds_toArray, List.set_cons_zero, List.set_cons_succ]; rfl) (by simp only [List.nil_append]; rfl) ?_
                        refine wpFacts_val (by rfl) (fun w1 hL hd K hK => ?_) ?_
                        · go_simp
                          exact hK _ (Lat.refl _)
                        refine wpFacts_norm (by simp only [Act.put, List.setIfInBounds_toArray, List.set_cons_zero, List.set_cons_succ]; rfl) (by simp only [List.cons_append, List.nil_append]; rfl) ?_
                        refine wpFacts_val (by rfl) (fun w1 hL hd K hK => ?_) ?_
                        · obtain ⟨d0, d1, _⟩ := cells_two_z (HC.out w1 hL).2
                          go_simp
                          exact hK _ (Lat.refl _)
                        refine wpFacts_norm (by simp only [Act.put, List.setIfInBounds_toArray, List.set_cons_zero, List.set_cons_succ]; rfl) (by simp only [List.cons_append, List.nil_append]; rfl) ?_
                        refine wpFacts_val (by rfl) (fun w1 hL hd K hK => ?_) ?_
                        · go_simp
                          exact hK _ (Lat.refl _)
                        refine wpFacts_norm (by simp only [Act.put, List.setIfInBounds_toArray, List.set_cons_zero, List.set_cons_succ]; rfl) (by simp only [List.cons_append, List.nil_append]; rfl) ?_
                        refine wpFacts_val (by rfl) (fun w1 hL hd K hK => ?_) ?_
                        · go_simp
                          exact hK _ (Lat.refl _)
                        refine wpFacts_norm (by simp only [Act.put, List.setIfInBounds_toArray, List.set_cons_zero, List.set_cons_succ]; rfl) (by simp only [List.cons_append, List.nil_append]; rfl) ?_
                        refine wpFacts_val (by rfl) (fun w1 hL hd K hK => ?_) ?_
                        · go_simp
                          exact hK _ (Lat.refl _)
                        refine wpFacts_norm (by simp only [Act.put, List.setIfInBounds_toArray, List.set_cons_zero, List.set_cons_succ]; rfl) (by simp only [List.cons_append, List.nil_append]; rfl) ?_
                        refine wpFacts_val (by rfl) (fun w1 hL hd K hK => ?_) ?_
                        · go_simp
                          exact hK _ (Lat.refl _)
                        refine wpFacts_norm (by simp only [Act.put, List.setIfInBounds_toArray, List.set_cons_zero, List.set_cons_succ]; rfl) (by simp only [List.cons_append, List.nil_append]; rfl) ?_
                        refine wpFacts_val (by rfl) (fun w1 hL hd K hK => ?_) ?_
                        · go_simp
                          exact hK _ (Lat.refl _)
                        refine wpFacts_norm (by simp only [Act.put, List.setIfInBounds_toArray, List.set_cons_zero, List.set_cons_succ]; rfl) (by simp only [List.cons_append, List.nil_append]; rfl) ?_
                        refine wpFacts_val (by rfl) (fun w1 hL hd K hK => ?_) ?_
                        · go_simp
                          exact hK _ (Lat.refl _)
                        refine wpFacts_norm (by simp only [Act.put, List.setIfInBounds_toArray, List.set_cons_zero, List.set_cons_succ]; rfl) (by simp only [List.cons_append, List.nil_append]; rfl) ?_
                        refine wpFacts_val (by rfl) (fun w1 hL hd K hK => ?_) ?_
                        · obtain ⟨d0, d1, _⟩ := cells_two_z (HC.out w1 hL).2
                          go_simp
                          exact hK _ (Lat.refl _)
                        refine wpFacts_norm (by simp only [Act.put, List.setIfInBounds_toArray, List.set_cons_zero, List.set_cons_succ]; rfl) (by simp only [List.cons_append, List.nil_append]; rfl) ?_
                        refine wpFacts_val (by rfl) (fun w1 hL hd K hK => ?_) ?_
                        · go_simp
                          exact hK _ (Lat.refl _)
                        refine wpFacts_norm (by simp only [Act.put, List.setIfInBounds_toArray, List.set_cons_zero, List.set_cons_succ]; rfl) (by simp only [List.cons_append, List.nil_append]; rfl) ?_
                        refine wpFacts_val (by rfl) (fun w1 hL hd K hK => ?_) ?_
                        · go_simp
                          exact hK _ (Lat.refl _)
                        refine wpFacts_norm (by simp only [Act.put, List.setIfInBounds_toArray, List.set_cons_zero, List.set_cons_succ]; rfl) (by simp only [List.cons_append, List.nil_append]; rfl) ?_
                        refine wpFacts_val (by rfl) (fun w1 hL hd K hK => ?_) ?_
                        · exact wp_slice_tail (.tmp 77) (.tmp 79) rfl _ _ _ rfl rfl (hsl w1) (hK _ (Lat.refl _))
                        refine wpFacts_norm (by simp only [Act.put, List.setIfInBounds_toArray, List.set_cons_zero, List.set_cons_succ]; rfl) (by simp only [List.cons_append, List.nil_append]; rfl) ?_
                        intro w1 hL ha
                        clear ha
                        have hlw := hL.of_drew
                        have A6 : Hid (Amid W3.heap.size (H :: C :: Bs) W3 w1) := hA3.out.trans (Amid.of hlw hA3.out.size)
                        have BW7 : Hid (Below w.heap.size w w1) := BW4.out.trans (A6.out.below LOW.out BW4.out.size)
                        have R6 : Hid (w1.heap[R]? = some (.cells #[.int .i64 l, .slice (some ⟨xb, xof, none⟩) rs.length xc] 43 (0, 0))) := (HC.out w1 hL).2
                        have LI : Hid (LisAt w1.heap.size w1 fo (Fi.setsG g)) := by
                          have h := O4.out.amid A6.out (Nat.le_refl _) G4.out H4.out (by
                            intro e
                            cases hfo : fo with
                            | none => rw [hfo] at e; cases e
                            | some ad =>
                              obtain ⟨ab, ao, ap⟩ := ad
                              rw [hfo] at e
                              have hab : ab = H := by simpa [Value.ownBlock] using e
                              have hv := O4.out
                              obtain ⟨vs2, h1, _⟩ := hv
                              rcases h1.2 with ⟨e2, _⟩ | ⟨g2, cap2, cur2, e2, _⟩
                              · rw [hfo] at e2; cases e2
                              · rw [hfo] at e2
                                simp only [Value.slice.injEq, Option.some.injEq, Addr.mk.injEq] at e2
                                exact AP.out ab ao (by rw [hfo, e2.1.2.2]) hab)
                          obtain ⟨ao, c, e, h1, _⟩ := h.read
                          simp only [Value.slice.injEq] at e
                          obtain ⟨rfl, _⟩ := e
                          exact h1
                        have SS : Hid (∀ s : Nat, ((Fi.setsG g).getD s []).length ≤ 4000) := fun s => by
                          rcases Nat.lt_or_ge s (Fi.setsG g).length with q | q
                          · have h1 := Fi.setsG_short g _ (List.getElem_mem q)
                            have h2 : (Fi.setsG g).getD s [] = (Fi.setsG g)[s] := by simp [List.getD_eq_getElem?_getD, q]
                            rw [h2]; omega
                          · have h2 : (Fi.setsG g).getD s [] = [] := by simp [List.getD_eq_getElem?_getD, q]
                            rw [h2]; simp
                        have NW : Hid (BoolsAt W2.heap.size w1 no (Nl.of g)) := BoolsAt.keep N4.out A6.out.size fun q o y hq hc => A6.out.block q (by have := W2S.out; omega) fun e => by
                          rcases List.mem_cons.1 e with e | e
                          · rw [e] at hc
                            have := cell_in H4.out hc
                            simp at this
                          · rcases List.mem_cons.1 e with e | e
                            · rw [e] at hc; exact cell_chan C4.out hc
                            · have := (BSG.out q e).1; omega
                        have KX : Hid (IntsAt w1.heap.size w1 so row) := IntsAt.size (ROW.out w1 (KI.out.later BW7.out))
                        have RI : Hid (∀ s ∈ row, 0 ≤ s ∧ s < (n : Int)) := fun s hs => hin2.out s (by rw [← HROW.out] at hs; exact List.mem_of_mem_drop hs)
                        have SML : Hid ((hs'.getD lm []).length + 1 ≤ 8000) := by
                          show _ ≤ _
                          have := BSM.out lm
                          omega
                        have LK : Hid _ := look_any (Nl.of g) (Fi.setsG g) row st' hs' vs' g.terms.length n g.names.length W3.heap.size W2.heap.size H S C nnc fc (xc - (k + 1)) no fo so Bs lm xm w1 A6.out.size hn (by omega) (hG3.out.later hlw) LTM.out BOK.out (hL3.out.later hlw) BHL.out SML.out NW.out W2S.out (fun q hq => (BSG.out q hq).1) HLN.out LI.out HFL.out (fun s hs t ht => Fi.setsG_in hg s (by omega) t ht) SS.out KX.out RI.out (by have := HRL.out; omega) hlN hxN
                        simp only [foCells] at LK
                        clear SS NW KX RI SML LI hL hG3 hL3 HC KW ROW hsl x0
                        simp only [List.length_cons, List.length_nil, Nat.reduceAdd]
                        refine wpList_wanted (by rfl) fun K hK => ?_
                        go_simp
                        refine Calls.mono LK.out ?_
                        rintro e w5 ⟨rfl, hA7, hG7, vs7, hL7⟩
                        refine hK _ _ ?_
                        go_wp2_with fail
                        have A8 : Hid (Amid W3.heap.size (H :: C :: Bs) W3 w5) := A6.out.trans hA7.out
                        have R8 : Hid (w5.heap[R]? = some (.cells #[.int .i64 l, .slice (some ⟨xb, xof, none⟩) rs.length xc] 43 (0, 0))) := (hA7.out.other R _ _ _ NRR.out R6.out (by decide)).trans R6.out
                        clear LK A6 BW7 R6 hA7
                        go_roundw
                        case rel => exact ⟨k + 1, _, vs7, _, by omega, by go_num, A8, hG7, hL7, BN, R8⟩
                        case measure => simp [intOf]; omega
                  · obtain rfl : k = rs.length := by omega
                    have hki : ¬ (rs.length : Int) < (rs.length : Int) := by omega
                    have BN : Hid _ := RULE.out st' hs' hBg3.out
                    clear hBg3 sb6 BW6
                    go_wp2_with fail
                    go_roundw
                    case rel => exact ⟨i + 1, st', vs', hs', by omega, by go_num, hA3, hG3, hL3, BN⟩
                    case measure => simp [intOf]; omega
              · obtain rfl : i = g.rules.length := by omega
                have hii : ¬ (g.rules.length : Int) < (g.rules.length : Int) := by omega
                obtain ⟨j1, j2⟩ := Fo.Bg.done hn HN0.out hBg.out
                have J1 : Hid (Fo.Inv g.rules (Nl.of g) g.terms.length n g.names.length (fun _ _ _ => False) (Fi.grow st 0 n)) := j1
                have J2 : Hid (Fo.Heirs g.rules (Nl.of g) g.terms.length g.names.length hs) := j2
                have J3 : Hid (∀ a : Nat, (hs.getD a []).length ≤ 480) := fun a => by have := hBg.out.small a; omega
                have room := (hBg.out.ok.grow (by omega) (a := 0) (v := (n : Int)) (by have := HN0.out; omega) (by omega) (.inr rfl)).2.2
                have HGR : Hid _ := fogrow_any st g.names.length g.terms.length n S C (g.names.length * (g.terms.length + 1)) H nnc fc no fo Bs 0 (n : Int) wr hG.out hBg.out.ok.shape.len (by have := HN0.out; omega) (by omega) room
                simp only [foCells] at HGR
                have sb6 := sb5.out
                obtain ⟨⟨c0, c1, c2, c3, c4, c5, c6⟩, _⟩ := cells_seven_z sb6
                have hbl6 := (Array.getElem?_eq_some_iff.1 sb6).1
                clear hBg j1 j2 room
                go_wp2_with (go_at_call 52; fail)
                refine Calls.mono HGR.out ?_
                rintro e w5 ⟨rfl, hb5, hs5⟩
                have A8 : Hid (Amid W3.heap.size (H :: C :: Bs) W3 w5) := hA.out.trans (Amid.more (Amid.butL hb5.out hA.out.size) fun q hq => List.mem_cons_of_mem _ hq)
                have L8 : Hid (LAt W3.heap.size H vs hs w5) := LAt.butL hL.out hb5.out fun q hq cs fr h => by
                  rcases List.mem_cons.1 hq with hq | hq
                  · obtain ⟨sn, rn, hch⟩ := hG.out.ch
                    rw [hq] at h
                    rcases h with h | h <;> rw [hch] at h <;> cases h
                  · obtain ⟨i, hi, rfl⟩ := List.getElem_of_mem hq
                    have hr := hG.out.rs.row i hi
                    rcases h with h | h <;> rw [hr] at h
                    · exact absurd (Obj.cells.inj (Option.some.inj h)).2.1 (by decide)
                    · exact absurd (Obj.cells.inj (Option.some.inj h)).2.1 (by decide)
                have sb7 : w5.heap[b]? = some (.cells #[.int .i64 (g.terms.length : Int), .int .i64 (n : Int), .slice no n nnc, .slice fo n fc, .slice (some ⟨H, 0, none⟩) g.names.length g.names.length, .slice (some ⟨S, 0, none⟩) g.names.length g.names.length, .chan (some C)] 57 (0, 0)) := (A8.out.block b (Array.getElem?_eq_some_iff.1 SB4.out).1 NB.out).trans SB4.out
                have rb7 : Hid (w5.heap[w.heap.size + 1]? = some (.cells #[.int .i64 0, .int .i64 0, .slice none 0 0, .slice none 0 0, .slice none 0 0, .slice none 0 0, .chan none] 57 (0, 0))) := (A8.out.block _ (Array.getElem?_eq_some_iff.1 RB4.out).1 NR.out).trans RB4.out
                have BW8 : Hid (Below w.heap.size w w5) := BW4.out.trans (A8.out.below LOW.out BW4.out.size)
                clear c0 c1 c2 c3 c4 c5 c6 hb5 HGR hG hL sb5 sb6 hbl6 hA
                obtain ⟨⟨c0, c1, c2, c3, c4, c5, c6⟩, _⟩ := cells_seven_z sb7
                have hbl7 := (Array.getElem?_eq_some_iff.1 sb7).1
                obtain ⟨⟨d0, d1, d2, d3, d4, d5, d6⟩, z0, z1, z2, z3, z4, z5, z6⟩ := cells_seven_z rb7.out
                have hrl7 := (Array.getElem?_eq_some_iff.1 rb7.out).1
                have hFS : Hid (∀ W6 : World, ButL [w.heap.size + 1] w5 W6 → FoS g n H S C Bs vs hs (Fi.grow st 0 n) w W6) := fun W6 hW => by
                  have hnR : ∀ q ∈ H :: C :: Bs, q ∉ [w.heap.size + 1] := fun q hq e => by
                    rw [List.mem_singleton] at e
                    rw [e] at hq
                    exact NR.out hq
                  refine ⟨BW8.out.trans (hW.below (fun q hq => by rw [List.mem_singleton] at hq; omega) BW8.out.size), ⟨LOW.out C (by simp), fun q hq => LOW.out q (by simp [hq])⟩, (L8.out.butL hW fun q hq cs fr h => ?_).from BW4.out.size, J2.out, J3.out, hs5.out.keep (hW.block _ hs5.out.lt.1 (by rw [List.mem_singleton]; have := LT.out; omega)) (hW.block _ hs5.out.lt.2.1 (hnR C (by simp))) (fun q hq => hW.block _ (hs5.out.lt.2.2 q hq) (hnR q (by simp [hq]))), J1.out⟩
                  rw [List.mem_singleton] at hq
                  subst hq
                  rcases h with h | h <;> rw [rb7.out] at h
                  · exact absurd (Obj.cells.inj (Option.some.inj h)).2.1 (by decide)
                  · exact absurd (Obj.cells.inj (Option.some.inj h)).2.1 (by decide)
                have HB6 : Hid (ButL [w.heap.size + 1] w5 (((((((w5.setCell ⟨w.heap.size + 1, 0, none⟩ (.int .i64 (g.terms.length : Int))).setCell ⟨w.heap.size + 1, 1, none⟩ (.int .i64 (n : Int))).setCell ⟨w.heap.size + 1, 2, none⟩ (.slice no n nnc)).setCell ⟨w.heap.size + 1, 3, none⟩ (.slice fo n fc)).setCell ⟨w.heap.size + 1, 4, none⟩ (.slice (some ⟨H, 0, none⟩) g.names.length g.names.length)).setCell ⟨w.heap.size + 1, 5, none⟩ (.slice (some ⟨S, 0, none⟩) g.names.length g.names.length)).setCell ⟨w.heap.size + 1, 6, none⟩ (.chan (some C)))) :=
                  (((((((ButL.refl _ w5).setCell (List.mem_cons_self ..) _ _).setCell (List.mem_cons_self ..) _ _).setCell (List.mem_cons_self ..) _ _).setCell (List.mem_cons_self ..) _ _).setCell (List.mem_cons_self ..) _ _).setCell (List.mem_cons_self ..) _ _).setCell (List.mem_cons_self ..) _ _
                have k5 := gset7 (x0 := .int .i64 (g.terms.length : Int)) (x1 := .int .i64 (n : Int)) (x2 := .slice no n nnc) (x3 := .slice fo n fc) (x4 := .slice (some ⟨H, 0, none⟩) g.names.length g.names.length) (x5 := .slice (some ⟨S, 0, none⟩) g.names.length g.names.length) (x6 := .chan (some C)) rb7.out
                have hn0 : ¬ b = w.heap.size + 1 := fun e => by have := LT.out.2.2.2; omega
                clear hs5 L8 A8 J1 J2 J3
                go_wp2_with fail
                generalize (((((((w5.setCell ⟨w.heap.size + 1, 0, none⟩ (.int .i64 (g.terms.length : Int))).setCell ⟨w.heap.size + 1, 1, none⟩ (.int .i64 (n : Int))).setCell ⟨w.heap.size + 1, 2, none⟩ (.slice no n nnc)).setCell ⟨w.heap.size + 1, 3, none⟩ (.slice fo n fc)).setCell ⟨w.heap.size + 1, 4, none⟩ (.slice (some ⟨H, 0, none⟩) g.names.length g.names.length)).setCell ⟨w.heap.size + 1, 5, none⟩ (.slice (some ⟨S, 0, none⟩) g.names.length g.names.length)).setCell ⟨w.heap.size + 1, 6, none⟩ (.chan (some C))) = W6 at *
                obtain ⟨⟨e0, e1, e2, e3, e4, e5, e6⟩, _⟩ := cells_seven_z k5
                refine bodyPost_ret (v := .agg (foCells g.terms.length n no fo nnc fc H S C g.names.length)) (by simp [results, Tryz.results51, go_sem, foCells, e0, e1, e2, e3, e4, e5, e6]) rfl ⟨no, fo, nnc, fc, H, S, C, rfl, Bs, vs, hs, _, hFS.out _ HB6.out⟩
end Go.Proofs.YtdocbgfpnaiijaaGreat
