/-
  The law NullableRounds, walked: it returns true, of every grammar.
-/
import Derived.Test.YtimjopaedfefmaaNlLaw
import Derived.Test.YtimjopaedfefmaaGrOwn
namespace Go.Proofs.Ytimjopaedfefmaa
open Go.RowKit Go.Conc

theorem wpFacts_skip {P : Program} {ops : Array Oper} {w0 : World} {Q : Exit → Act → World → Prop} {all ss : List Spec} {tl : List Oper} {o : Oper} {rest : List Oper} {vs : List Value} {a : Act} (hw : Region.wanted o (yielded ops a.tmps) = false)
    (h2 : wpFacts P ops Lat w0 Q all tl ss rest (vs ++ [undef]) (a.put o.dst undef)) : wpFacts P ops Lat w0 Q all tl (.val undef :: ss) (o :: rest) vs a :=
  ⟨fun w hR hd => by unfold StepF; rw [if_neg (by rw [hw]; simp)]; rfl, h2⟩

/-- answers in a row of one's own -/
def OwnBools (base : Nat) (w : World) (v : Value) (bs : List Bool) : Prop := w.ownsRow base 4 1 v bs.length (bs.map .bool)

theorem wp_copy_bools {o : Oper} {a : Act} {w : World} {K : Act → World → Prop} {Q : Exit → Act → World → Prop} (s x : Operand) (ho : o.op = .call { callee := .builtin .append, args := #[s, x], argTypes := #[44, 44] })
    (N : Nat) (v : Value) (hs : a.eval s = v) (hE : Empty N 4 v w) (ao : Option Addr) (c : Nat) (xs : List Bool) (hx : a.eval x = .slice ao xs.length c) (hS : BoolsAt w.heap.size w ao xs) (hl : xs.length ≤ 4000)
    (h : ∀ v' w', Lat w w' → OwnBools N w' v' xs → (0 < xs.length → v'.ownBlock = some w.heap.size) → K (a.put o.dst v') w') : o.wp Try.prog a w K Q := by
  obtain ⟨iA, hi, hz0, hz1, hz2⟩ := info_parts Try.infoBl6
  have hsrc := CellsAt.src (P := Try.prog) (c := c) Try.underlying44 hS (fun u hu => by obtain ⟨x, _, rfl⟩ := List.mem_map.1 hu; rfl)
  rw [List.length_map] at hsrc
  exact wp_copy s x 44 ho 4 iA _ 1 1 Try.underlying44 hi hz0 hz1 hz2 rfl N v hs hE _ xs.length (xs.map .bool) hx hsrc (by unfold maxLen; omega) (by omega) h

theorem OwnBools.read {base : Nat} {w : World} {v : Value} {xs : List Bool} (h : OwnBools base w v xs) (h0 : 0 < xs.length) :
    ∃ g c, v = .slice (some ⟨g, 0, none⟩) xs.length c ∧ BoolsAt w.heap.size w (some ⟨g, 0, none⟩) xs := by
  have hc := h
  rcases h.2 with ⟨_, q⟩ | ⟨g, cap, cur, rfl, _, hh, _⟩
  · omega
  · have hlt := (Array.getElem?_eq_some_iff.1 hh).1
    refine ⟨g, cap, rfl, fun i hi => ⟨g, 0, rfl, hlt, hlt, ?_⟩⟩
    have := World.ownsRow.cells hc (g := g) rfl i _ (List.getElem?_eq_getElem hi)
    rw [addr_zero_add] at this; rw [Nat.zero_add]; exact this

/-- what holds of memory amid a round: the answers so far (H), the round's own (X) -/
structure VInv (w wr : World) (g : Gr.Gm) (A : GA) (H X cX : Nat) (b nx : List Bool) : Prop where
  below : Below w.heap.size w wr
  lt : w.heap.size < X
  gb : wr.heap[w.heap.size]? = some (.cells #[.slice A.ta g.terms.length A.tc, .slice A.na g.names.length A.nc, .slice A.ra g.rules.length A.rc] 26 (0, 0))
  hb : BoolsAt X wr (some ⟨H, 0, none⟩) b
  xb : OwnBools 0 wr (.slice (some ⟨X, 0, none⟩) nx.length cX) nx

theorem VInv.set {w wr : World} {g : Gr.Gm} {A : GA} {H X cX : Nat} {b nx : List Bool} (h : VInv w wr g A H X cX b nx) (m : Nat) (u : Bool) : VInv w (wr.setCell ⟨X, m, none⟩ (.bool u)) g A H X cX b (nx.set m u) := by
  have hl := h.lt
  have hne : w.heap.size ≠ X := by omega
  have hB : Below X wr (wr.setCell ⟨X, m, none⟩ (.bool u)) := (Below.refl _ wr).setCell (by show X ≤ X; omega) _
  refine ⟨h.below.setCell (by show w.heap.size ≤ X; omega) _, h.lt, (Below.heap_setCell _ _ _ _ hne).trans h.gb, h.hb.later hB, ?_⟩
  have := (World.ownsRow.stored h.xb m (.bool u)).1
  unfold OwnBools
  rw [List.length_set, List.map_set]
  exact this
theorem VInv.later {w wr w' : World} {g : Gr.Gm} {A : GA} {H X cX : Nat} {b nx : List Bool} (h : VInv w wr g A H X cX b nx) (hb : Below wr.heap.size wr w') : VInv w w' g A H X cX b nx :=
  ⟨h.below.trans (hb.mono h.below.size), h.lt, (hb.block _ (Array.getElem?_eq_some_iff.1 h.gb).1).trans h.gb, h.hb.later (hb.mono (Nat.le_of_lt (World.ownsRow.lt h.xb X rfl).2)), ownsRow_below h.xb hb⟩
theorem VInv.cell {w wr : World} {g : Gr.Gm} {A : GA} {H X cX : Nat} {b nx : List Bool} (h : VInv w wr g A H X cX b nx) (m : Nat) (hm : m < nx.length) : wr.cell? ⟨X, m, none⟩ = some (.bool nx[m]) ∧ wr.frozen? ⟨X, m, none⟩ = false := by
  constructor
  · have := World.ownsRow.cells h.xb (g := X) rfl m (.bool nx[m]) (by simp [hm])
    rw [addr_zero_add] at this; exact this
  · exact World.ownsRow.frozenAt h.xb m

theorem by2_step (b : List Bool) (rs : List Gr.Rl) (q : Nat) (h : q < rs.length) : (rs.take (q + 1)).foldl (Nl.by2 b) b = Nl.by2 b ((rs.take q).foldl (Nl.by2 b) b) rs[q] := Gr.take_step _ _ _ _ h
theorem by2_len (b : List Bool) (rs : List Gr.Rl) : (rs.foldl (Nl.by2 b) b).length = b.length := (Nl.fold2_le b rs b).1.symm
theorem allIn_take (bs : List Bool) (xs : List Int) (q : Nat) (h : q < xs.length) : Nl.allIn bs (xs.take (q + 1)) = (Nl.allIn bs (xs.take q) && Nl.isAt bs xs[q]) := by
  unfold Nl.allIn
  rw [List.take_add_one, List.getElem?_eq_getElem h, List.all_append]
  simp

theorem by2_set (b cs : List Bool) (m : Nat) (yr : List Int) (hm : m < cs.length) : cs.set m (cs[m] || Nl.allIn b yr) = Nl.by2 b cs ((m : Int), yr) := by
  unfold Nl.by2
  cases h : Nl.allIn b yr
  · rw [Bool.or_false, List.set_getElem_self]; simp
  · rw [Bool.or_true, if_pos rfl]; rfl

set_option maxRecDepth 100000 in
set_option maxHeartbeats 3200000 in
theorem nullableRounds_out (g : Gr.Gm) (A : GA) (w : World) (h : GmAt w.heap.size w g A) (hm : ∀ r ∈ g.rules, r.2.length ≤ maxLen) (hl : Gr.large g = true ∨ Gr.large g = false ∧ Gr.good g = false) :
    Calls Try.prog 8 #[.agg (gmCells g A)] w fun e w' => e = .returned (.bool true) ∧ Below w.heap.size w w' := by
  obtain ⟨ta, tc, na, nc, ra, rc⟩ := A
  have hbW : Hid (Below w.heap.size w (w.alloc (Obj.cells #[.slice ta g.terms.length tc, .slice na g.names.length nc, .slice ra g.rules.length rc] 26))) := (Below.refl _ w).alloc (Nat.le_refl _) _
  have b0 : Hid ((w.alloc (Obj.cells #[.slice ta g.terms.length tc, .slice na g.names.length nc, .slice ra g.rules.length rc] 26)).heap[w.heap.size]? = some (.cells #[.slice ta g.terms.length tc, .slice na g.names.length nc, .slice ra g.rules.length rc] 26 (0, 0))) := heap_alloc_new w _
  have HLG : Hid (∀ (r : Bool) (W : World), Below w.heap.size w W → Gr.large g = r → Calls Try.prog 14 #[.agg (gmCells g ⟨ta, tc, na, nc, ra, rc⟩)] W fun e w' => e = .returned (.bool r) ∧ Below W.heap.size W w') := fun r W hW hl => large_is r g _ W hm (h.later hW).size hl
  have HGD : Hid (∀ (r : Bool) (W : World), Below w.heap.size w W → Gr.good g = r → Calls Try.prog 26 #[.agg (gmCells g ⟨ta, tc, na, nc, ra, rc⟩)] W fun e w' => e = .returned (.bool r) ∧ Below W.heap.size W w') := fun r W hW hr => refGood_any r g _ W hm (h.next hW) (by rw [Gr.refGood_is]; exact hr)
  simp only [gmCells] at HLG HGD ⊢
  clear h hm
  rcases hl with hl | ⟨hl, hg⟩
  · have HL1 : Hid (∀ _ : Unit, _) := fun _ => HLG.out true _ hbW.out hl
    clear HLG hl HGD
    go_enter Try.func8, Try.ntmps8
    go_wp2_with (first | (go_at_call 14; refine Calls.mono (HL1.out ()) ?_; rintro e w1 ⟨rfl, hb1⟩) | (go_at_call 16; refine Calls.mono (nwakes_any _) ?_; rintro e w3 ⟨rfl, hb3⟩))
    go_ret
    exact ⟨rfl, (hbW.out.trans (hb1.mono hbW.out.size)).trans (hb3.mono (hbW.out.trans (hb1.mono hbW.out.size)).size)⟩
  · have HL1 : Hid (∀ _ : Unit, _) := fun _ => HLG.out false _ hbW.out hl
    have HG1 : Hid (∀ (W : World), Below w.heap.size w W → _) := fun W hW => HGD.out false W hW hg
    clear HLG hl hg HGD
    go_enter Try.func8, Try.ntmps8
    go_wp2_with (go_at_call 14; fail)
    generalize (w.alloc (Obj.cells #[.slice ta g.terms.length tc, .slice na g.names.length nc, .slice ra g.rules.length rc] 26)) = W at *
    refine Calls.mono (HL1.out ()) ?_
    rintro e w1 ⟨rfl, hb1⟩
    have HB1 : Hid (Below w.heap.size w w1) := hbW.out.trans (hb1.mono hbW.out.size)
    obtain ⟨g0, g1, g2, _⟩ := cells_three_z ((hb1.block _ (Array.getElem?_eq_some_iff.1 b0.out).1).trans b0.out)
    clear hb1 b0 hbW HL1
    go_wp2_with (go_at_call 26; fail)
    refine Calls.mono (HG1.out _ HB1.out) ?_
    rintro e w2 ⟨rfl, hb2⟩
    have HB2 : Hid (Below w.heap.size w w2) := HB1.out.trans (hb2.mono HB1.out.size)
    clear g0 g1 g2 hb2 HB1 HG1
    go_wp2_with (go_at_call 16; refine Calls.mono (nwakes_any _) ?_; rintro e w3 ⟨rfl, hb3⟩)
    go_ret
    exact ⟨rfl, HB2.out.trans (hb3.mono HB2.out.size)⟩

set_option maxRecDepth 100000 in
set_option maxHeartbeats 6400000 in
theorem nullableRounds_in (g : Gr.Gm) (A : GA) (w : World) (h : GmAt w.heap.size w g A) (hm : ∀ r ∈ g.rules, r.2.length ≤ maxLen) (hl : Gr.large g = false) (hg : Gr.good g = true) :
    Calls Try.prog 8 #[.agg (gmCells g A)] w fun e w' => e = .returned (.bool true) ∧ Below w.heap.size w w' := by
  obtain ⟨ta, tc, na, nc, ra, rc⟩ := A
  have HM : Hid _ := hm
  have HG : Hid (GmAt w.heap.size w g ⟨ta, tc, na, nc, ra, rc⟩) := h
  obtain ⟨hsz, h8⟩ := Nl.sizes_of hg
  have HF : Hid _ := Nl.fit_of hg
  have H8 : Hid _ := h8
  have R : Hid (Nl.of g = Nl.nulls g.rules (g.terms.length + g.names.length)) := by show _ = _; simp [Nl.of, hg]
  have hmb := make_bools6 g.terms.length g.names.length (by omega)
  have hbW : Hid (Below w.heap.size w (w.alloc (Obj.cells #[.slice ta g.terms.length tc, .slice na g.names.length nc, .slice ra g.rules.length rc] 26))) := (Below.refl _ w).alloc (Nat.le_refl _) _
  have b0 : Hid ((w.alloc (Obj.cells #[.slice ta g.terms.length tc, .slice na g.names.length nc, .slice ra g.rules.length rc] 26)).heap[w.heap.size]? = some (.cells #[.slice ta g.terms.length tc, .slice na g.names.length nc, .slice ra g.rules.length rc] 26 (0, 0))) := heap_alloc_new w _
  have HL1 : Hid (∀ (W : World), Below w.heap.size w W → Calls Try.prog 14 #[.agg (gmCells g ⟨ta, tc, na, nc, ra, rc⟩)] W fun e w' => e = .returned (.bool false) ∧ Below W.heap.size W w') := fun W hW => large_is false g _ W hm (h.later hW).size hl
  have HGD : Hid (∀ (W : World), Below w.heap.size w W → Calls Try.prog 26 #[.agg (gmCells g ⟨ta, tc, na, nc, ra, rc⟩)] W fun e w' => e = .returned (.bool true) ∧ Below W.heap.size W w') := fun W hW => refGood_any true g _ W hm (h.next hW) (by rw [Gr.refGood_is]; exact hg)
  have HOF : Hid (∀ (W : World), Below w.heap.size w W → Calls Try.prog 18 #[.agg (gmCells g ⟨ta, tc, na, nc, ra, rc⟩)] W fun e w' => ∃ ao c, e = .returned (.slice ao (Nl.of g).length c) ∧ Hid (BoolsAt w'.heap.size w' ao (Nl.of g)) ∧ Hid (Below W.heap.size W w')) := fun W hW => nof_is g _ W hm (h.next hW)
  simp only [gmCells] at HL1 HGD HOF ⊢
  clear h hm h8
  go_enter Try.func8, Try.ntmps8
  go_wp2_with (go_at_call 14; fail)
  generalize (w.alloc (Obj.cells #[.slice ta g.terms.length tc, .slice na g.names.length nc, .slice ra g.rules.length rc] 26)) = W at *
  refine Calls.mono (HL1.out _ hbW.out) ?_
  rintro e w1 ⟨rfl, hb1⟩
  have b1 : Hid _ := (hb1.block _ (Array.getElem?_eq_some_iff.1 b0.out).1).trans b0.out
  have HB1 : Hid (Below w.heap.size w w1) := hbW.out.trans (hb1.mono hbW.out.size)
  obtain ⟨g0, g1, g2, _⟩ := cells_three_z b1.out
  clear hb1 b0 hbW HL1
  go_wp2_with (go_at_call 26; fail)
  refine Calls.mono (HGD.out _ HB1.out) ?_
  rintro e w2 ⟨rfl, hb2⟩
  have b2 : Hid _ := (hb2.block _ (Array.getElem?_eq_some_iff.1 b1.out).1).trans b1.out
  have HB2 : Hid (Below w.heap.size w w2) := HB1.out.trans (hb2.mono HB1.out.size)
  have hz2 := (Array.getElem?_eq_some_iff.1 b2.out).1
  clear g0 g1 g2 hb2 HB1 HGD b1
  obtain ⟨g0, g1, g2, _⟩ := cells_three_z b2.out
  have U0 : Hid (Below w.heap.size w (w2.alloc (.cells (Array.replicate (g.terms.length + g.names.length) (Value.bool false)) 4)) ∧ (w2.alloc (.cells (Array.replicate (g.terms.length + g.names.length) (Value.bool false)) 4)).heap[w.heap.size]? = some (.cells #[.slice ta g.terms.length tc, .slice na g.names.length nc, .slice ra g.rules.length rc] 26 (0, 0)) ∧
      BoolsAt (w2.alloc (.cells (Array.replicate (g.terms.length + g.names.length) (Value.bool false)) 4)).heap.size (w2.alloc (.cells (Array.replicate (g.terms.length + g.names.length) (Value.bool false)) 4)) (some ⟨w2.heap.size, 0, none⟩) (List.replicate (g.terms.length + g.names.length) false)) := by
    refine ⟨HB2.out.alloc HB2.out.size _, (Below.heap_alloc _ _ _ hz2).trans b2.out, ?_⟩
    have := bools_new w2 (List.replicate (g.terms.length + g.names.length) false) 4
    simpa using this
  clear HB2 b2
  go_upto_region 5 with fail
  generalize (w2.alloc (.cells (Array.replicate (g.terms.length + g.names.length) (Value.bool false)) 4)) = W2 at *
  generalize w2.heap.size = H0 at *
  clear g0 g1 g2 hmb
  go_wp2_with fail
  go_loopw [4, 5, 6, 7, 8, 9] (fun hv i _ _ _ _ wr => ∃ (k H cH : Nat) (b : List Bool), k ≤ g.names.length ∧ i = .int .i64 k ∧ hv = .slice (some ⟨H, 0, none⟩) (g.terms.length + g.names.length) cH ∧ Hid (Below w.heap.size w wr ∧ wr.heap[w.heap.size]? = some (.cells #[.slice ta g.terms.length tc, .slice na g.names.length nc, .slice ra g.rules.length rc] 26 (0, 0)) ∧ BoolsAt wr.heap.size wr (some ⟨H, 0, none⟩) b) ∧ Hid (Nl.Rd g.terms.length (g.terms.length + g.names.length) g.rules k b)) (fun _ i _ _ _ _ _ => g.names.length - (intOf i).toNat)
  case atStart => exact ⟨0, H0, _, _, Nat.zero_le _, rfl, rfl, U0, Nl.Rd.start⟩
  case round =>
    obtain ⟨k, H, cH, b, hk, rfl, rfl, hU, hR⟩ := hrel
    clear U0
    have hln := hR.out.len
    obtain ⟨g0, g1, g2, _⟩ := cells_three_z hU.out.2.1
    by_cases hkl : k < g.names.length
    · have hki : (k : Int) < (g.names.length : Int) := by omega
      have hbE : Hid (Below wr.heap.size wr (wr.alloc (.cells #[] 4))) := (Below.refl _ wr).alloc (Nat.le_refl _) _
      have hHl : H < wr.heap.size := by
        obtain ⟨_, _, e, h1, _⟩ := hU.out.2.2 0 (by rw [List.length_map, hln]; omega)
        cases e; exact h1
      have hzE : Hid ((wr.alloc (Obj.cells #[] 4)).heap.size = wr.heap.size + 1) := by show _ = _; simp
      go_upto_region 8 with fail
      iterate 8 go_step
      refine wp_copy_bools (.tmp 34) (.tmp 35) rfl wr.heap.size _ rfl (Empty.new wr.heap.size 4 wr (Nat.le_refl _)) (some ⟨H, 0, none⟩) cH b (by rw [hln]; rfl) (hU.out.2.2.next hbE.out) (by omega) ?_
      intro v3 w3 hL3 ho3 hob
      obtain ⟨X, cX, rfl, _⟩ := OwnBools.read ho3 (by omega)
      have hX : X = wr.heap.size + 1 := by
        have := hob (by omega)
        rw [hzE.out] at this
        simpa [Value.ownBlock] using this
      have HL3 : Hid (Below wr.heap.size wr w3) := hbE.out.trans (Below.mono hL3 hbE.out.size)
      have P0 : Hid (VInv w w3 g ⟨ta, tc, na, nc, ra, rc⟩ H X cX b ((g.rules.take 0).foldl (Nl.by2 b) b)) := by
        have hz := (Array.getElem?_eq_some_iff.1 hU.out.2.1).1
        refine ⟨hU.out.1.trans (HL3.out.mono hU.out.1.size), by omega, (HL3.out.block _ hz).trans hU.out.2.1, ?_, ownsRow_from ho3 (Nat.zero_le _)⟩
        intro i hi
        obtain ⟨bb, o, e, h1, h2, c0⟩ := (hU.out.2.2.later HL3.out) i hi
        exact ⟨bb, o, e, by omega, h2, c0⟩
      rw [hln]
      clear hob ho3 hL3 hbE hzE hU g0 g1 g2 HL3 hX hHl
      go_upto_region 10 with fail
      go_loopw [7, 8, 9] (fun i _ _ wc => ∃ q : Nat, q ≤ g.rules.length ∧ i = .int .i64 q ∧ Hid (VInv w wc g ⟨ta, tc, na, nc, ra, rc⟩ H X cX b ((g.rules.take q).foldl (Nl.by2 b) b))) (fun i _ _ _ => g.rules.length - (intOf i).toNat)
      case atStart => exact ⟨0, Nat.zero_le _, rfl, P0⟩
      case round =>
        obtain ⟨q, hq, rfl, hA⟩ := hrel
        clear P0
        obtain ⟨g0, g1, g2, _⟩ := cells_three_z hA.out.gb
        simp only at g0 g1 g2
        by_cases hql : q < g.rules.length
        · have hqi : (q : Int) < (g.rules.length : Int) := by omega
          obtain ⟨rb, ro, yo, yc, hra, _, _, y0, y1, yI, _⟩ := HG.out.rules q hql
          simp only at hra
          subst hra
          have hmm : g.rules[q] ∈ g.rules := List.getElem_mem hql
          have h8q := H8.out _ hmm
          have hlf := HF.out.left _ hmm
          have hrt := HF.out.right _ hmm
          have ST : Hid _ := by2_step b g.rules q hql
          have hpl := by2_len b (g.rules.take q)
          have HY : Hid (IntsAt w.heap.size w yo g.rules[q].2) := yI
          clear hmm yI
          generalize g.rules[q] = y at *
          obtain ⟨yl, yr⟩ := y
          simp only at y0 y1 HY h8q hlf
          have HRT : Hid (∀ s ∈ yr, 0 ≤ s ∧ s < ((g.terms.length + g.names.length : Nat) : Int)) := hrt
          clear hrt
          obtain ⟨m, rfl⟩ : ∃ m : Nat, yl = m := ⟨yl.toNat, by omega⟩
          replace y0 := cell_later hA.out.below y0
          replace y1 := cell_later hA.out.below y1
          generalize hcs : (g.rules.take q).foldl (Nl.by2 b) b = cs at *
          have hml : m < cs.length := by rw [hpl, hln]; omega
          go_upto_region 14 with fail
          go_loopw [8, 9] (fun ov jv wd => ∃ (ok : Bool) (j : Nat), j ≤ yr.length ∧ ov = .bool ok ∧ jv = .int .i64 j ∧ wd = wr ∧ Hid (Nl.allIn b (yr.take j) = ok)) (fun _ jv _ => yr.length - (intOf jv).toNat)
          case atStart => exact ⟨true, 0, Nat.zero_le _, rfl, rfl, rfl, rfl⟩
          case round =>
            obtain ⟨ok, j, hj, rfl, rfl, rfl, hE⟩ := hrel
            by_cases hjl : j < yr.length
            · have hji : (j : Int) < (yr.length : Int) := by omega
              obtain ⟨yb, yq, hyo, _, _, v1⟩ := HY.out.get j hjl
              subst hyo
              have hsy := HRT.out _ (List.getElem_mem hjl)
              have hET := allIn_take b yr j hjl
              replace v1 := cell_later hA.out.below v1
              generalize yr[j] = sy at *
              obtain ⟨sy, rfl⟩ : ∃ m : Nat, sy = m := ⟨sy.toNat, by omega⟩
              have hsl : sy < b.length := by rw [hln]; omega
              obtain ⟨hb0, ho0, he, _, _, hc0⟩ := hA.out.hb.get sy hsl
              cases he
              rw [Nat.zero_add] at hc0
              have e1 : Nl.isAt b (sy : Int) = b[sy] := by rw [Nl.isAt_get (by omega) (by simpa using hsl)]; simp
              rw [e1, hE.out] at hET
              clear e1
              generalize b[sy] = bv at *
              cases ok
              · have HN : Hid (Nl.allIn b (yr.take (j + 1)) = false) := by show _ = _; rw [hET]; rfl
                clear hET hE
                go_wp2_with fail
                go_roundw
                case rel => exact ⟨false, j + 1, by omega, rfl, by go_num, trivial, HN⟩
                case measure => simp [intOf]; omega
              · have HN : Hid (Nl.allIn b (yr.take (j + 1)) = bv) := by show _ = _; rw [hET]; simp
                clear hET hE
                go_wp2_with fail
                go_roundw
                case rel => exact ⟨bv, j + 1, by omega, rfl, by go_num, trivial, HN⟩
                case measure => simp [intOf]; omega
            · have hji : ¬ (j : Int) < (yr.length : Int) := by omega
              have hE2 : Nl.allIn b yr = ok := by have := hE.out; rwa [List.take_of_length_le (by omega)] at this
              clear hE
              have hmi : (m : Int) < (g.terms.length : Int) + (g.names.length : Int) := by omega
              go_upto_region 17 with fail
              obtain ⟨cv, hv⟩ : ∃ cv, cs[m] = cv := ⟨_, rfl⟩
              have HC : Hid (∀ w1 : World, Lat wr.drew w1 → w1.cell? ⟨w.heap.size, 2, none⟩ = some (.slice (some ⟨rb, ro, none⟩) g.rules.length rc) ∧ w1.cell? ⟨rb, ro + q * 2, none⟩ = some (.int .i64 m) ∧ w1.cell? ⟨X, m, none⟩ = some (.bool cv)) := fun w1 hL =>
                ⟨cell_later hL.of_drew g2, cell_later hL.of_drew y0, by rw [← hv]; exact cell_later hL.of_drew (hA.out.cell m hml).1⟩
              cases cv
              · refine wp_region_lat [.val (.slice (some ⟨X, 0, none⟩) (g.terms.length + g.names.length) cX), .val (.pointer (some ⟨w.heap.size, 2, none⟩)), .val (.slice (some ⟨rb, ro, none⟩) g.rules.length rc), .val (.int .i64 q), .val (.pointer (some ⟨rb, ro + q * 2, none⟩)), .val (.pointer (some ⟨rb, ro + q * 2, none⟩)), .val (.int .i64 m), .val (.slice (some ⟨X, 0, none⟩) (g.terms.length + g.names.length) cX), .val (.pointer (some ⟨w.heap.size, 2, none⟩)), .val (.slice (some ⟨rb, ro, none⟩) g.rules.length rc), .val (.int .i64 q), .val (.pointer (some ⟨rb, ro + q * 2, none⟩)), .val (.pointer (some ⟨rb, ro + q * 2, none⟩)), .val (.int .i64 m), .val (.pointer (some ⟨X, m, none⟩)), .val (.bool false), .val (.bool false), .val (.bool ok), .val (.bool ok), .val (.pointer (some ⟨X, m, none⟩))] [_] (by kernel_rfl) (by kernel_rfl) rfl ?kept ?walk
                case kept => exact trivial
                case walk =>
                  refine wpFacts_val (by rfl) (fun w1 hL hd K hK => ?_) ?_
                  · go_simp
                    exact hK _ (Lat.refl _)
                  refine wpFacts_norm (by simp only [Act.put, List.setIfInBounds_toArray, List.set_cons_zero, List.set_cons_succ]; rfl) (by simp only [List.nil_append]; rfl) ?_
                  refine wpFacts_val (by rfl) (fun w1 hL hd K hK => ?_) ?_
                  · go_simp
                    exact hK _ (Lat.refl _)
                  refine wpFacts_norm (by simp only [Act.put, List.setIfInBounds_toArray, List.set_cons_zero, List.set_cons_succ]; rfl) (by simp only [List.cons_append, List.nil_append]; rfl) ?_
                  refine wpFacts_val (by rfl) (fun w1 hL hd K hK => ?_) ?_
                  · obtain ⟨d0, d1, d2⟩ := HC.out w1 hL
                    go_simp
                    exact hK _ (Lat.refl _)
                  refine wpFacts_norm (by simp only [Act.put, List.setIfInBounds_toArray, List.set_cons_zero, List.set_cons_succ]; rfl) (by simp only [List.cons_append, List.nil_append]; rfl) ?_
                  refine wpFacts_val (by rfl) (fun w1 hL hd K hK => ?_) ?_
                  · go_simp
                    exact hK _ (Lat.refl _)
                  refine wpFacts_norm (by simp only [Act.put, List.setIfInBounds_toArray, List.set_cons_zero, List.set_cons_succ]; rfl) (by simp only [List.cons_append, List.nil_append]; rfl) ?_
                  refine wpFacts_val (by rfl) (fun w1 hL hd K hK => ?_) ?_
                  · go_simp
                    exact hK _ (Lat.refl _)
                  refine wpFacts_norm (by simp only [Act.put, List.setIfInBounds_toArray, List.set_cons_zero, List.set_cons_succ]; rfl) (by simp only [List.cons_append, List.nil_append]; rfl) ?_
                  refine wpFacts_val (by rfl) (fun w1 hL hd K hK => ?_) ?_
                  · go_simp
                    exact hK _ (Lat.refl _)
                  refine wpFacts_norm (by simp only [Act.put, List.setIfInBounds_toArray, List.set_cons_zero, List.set_cons_succ]; rfl) (by simp only [List.cons_append, List.nil_append]; rfl) ?_
                  refine wpFacts_val (by rfl) (fun w1 hL hd K hK => ?_) ?_
                  · obtain ⟨d0, d1, d2⟩ := HC.out w1 hL
                    go_simp
                    exact hK _ (Lat.refl _)
                  refine wpFacts_norm (by simp only [Act.put, List.setIfInBounds_toArray, List.set_cons_zero, List.set_cons_succ]; rfl) (by simp only [List.cons_append, List.nil_append]; rfl) ?_
                  refine wpFacts_val (by rfl) (fun w1 hL hd K hK => ?_) ?_
                  · go_simp
                    exact hK _ (Lat.refl _)
                  refine wpFacts_norm (by simp only [Act.put, List.setIfInBounds_toArray, List.set_cons_zero, List.set_cons_succ]; rfl) (by simp only [List.cons_append, List.nil_append]; rfl) ?_
                  refine wpFacts_val (by rfl) (fun w1 hL hd K hK => ?_) ?_
                  · go_simp
                    exact hK _ (Lat.refl _)
                  refine wpFacts_norm (by simp only [Act.put, List.setIfInBounds_toArray, List.set_cons_zero, List.set_cons_succ]; rfl) (by simp only [List.cons_append, List.nil_append]; rfl) ?_
                  refine wpFacts_val (by rfl) (fun w1 hL hd K hK => ?_) ?_
                  · obtain ⟨d0, d1, d2⟩ := HC.out w1 hL
                    go_simp
                    exact hK _ (Lat.refl _)
                  refine wpFacts_norm (by simp only [Act.put, List.setIfInBounds_toArray, List.set_cons_zero, List.set_cons_succ]; rfl) (by simp only [List.cons_append, List.nil_append]; rfl) ?_
                  refine wpFacts_val (by rfl) (fun w1 hL hd K hK => ?_) ?_
                  · go_simp
                    exact hK _ (Lat.refl _)
                  refine wpFacts_norm (by simp only [Act.put, List.setIfInBounds_toArray, List.set_cons_zero, List.set_cons_succ]; rfl) (by simp only [List.cons_append, List.nil_append]; rfl) ?_
                  refine wpFacts_val (by rfl) (fun w1 hL hd K hK => ?_) ?_
                  · go_simp
                    exact hK _ (Lat.refl _)
                  refine wpFacts_norm (by simp only [Act.put, List.setIfInBounds_toArray, List.set_cons_zero, List.set_cons_succ]; rfl) (by simp only [List.cons_append, List.nil_append]; rfl) ?_
                  refine wpFacts_val (by rfl) (fun w1 hL hd K hK => ?_) ?_
                  · go_simp
                    exact hK _ (Lat.refl _)
                  refine wpFacts_norm (by simp only [Act.put, List.setIfInBounds_toArray, List.set_cons_zero, List.set_cons_succ]; rfl) (by simp only [List.cons_append, List.nil_append]; rfl) ?_
                  refine wpFacts_val (by rfl) (fun w1 hL hd K hK => ?_) ?_
                  · obtain ⟨d0, d1, d2⟩ := HC.out w1 hL
                    go_simp
                    exact hK _ (Lat.refl _)
                  refine wpFacts_norm (by simp only [Act.put, List.setIfInBounds_toArray, List.set_cons_zero, List.set_cons_succ]; rfl) (by simp only [List.cons_append, List.nil_append]; rfl) ?_
                  refine wpFacts_val (by rfl) (fun w1 hL hd K hK => ?_) ?_
                  · go_simp
                    exact hK _ (Lat.refl _)
                  refine wpFacts_norm (by simp only [Act.put, List.setIfInBounds_toArray, List.set_cons_zero, List.set_cons_succ]; rfl) (by simp only [List.cons_append, List.nil_append]; rfl) ?_
                  refine wpFacts_val (by rfl) (fun w1 hL hd K hK => ?_) ?_
                  · obtain ⟨d0, d1, d2⟩ := HC.out w1 hL
                    go_simp
                    exact hK _ (Lat.refl _)
                  refine wpFacts_norm (by simp only [Act.put, List.setIfInBounds_toArray, List.set_cons_zero, List.set_cons_succ]; rfl) (by simp only [List.cons_append, List.nil_append]; rfl) ?_
                  refine wpFacts_val (by rfl) (fun w1 hL hd K hK => ?_) ?_
                  · go_simp
                    exact hK _ (Lat.refl _)
                  refine wpFacts_norm (by simp only [Act.put, List.setIfInBounds_toArray, List.set_cons_zero, List.set_cons_succ]; rfl) (by simp only [List.cons_append, List.nil_append]; rfl) ?_
                  refine wpFacts_val (by rfl) (fun w1 hL hd K hK => ?_) ?_
                  · go_simp
                    exact hK _ (Lat.refl _)
                  refine wpFacts_norm (by simp only [Act.put, List.setIfInBounds_toArray, List.set_cons_zero, List.set_cons_succ]; rfl) (by simp only [List.cons_append, List.nil_append]; rfl) ?_
                  refine wpFacts_val (by rfl) (fun w1 hL hd K hK => ?_) ?_
                  · go_simp
                    exact hK _ (Lat.refl _)
                  refine wpFacts_norm (by simp only [Act.put, List.setIfInBounds_toArray, List.set_cons_zero, List.set_cons_succ]; rfl) (by simp only [List.cons_append, List.nil_append]; rfl) ?_
                  refine wpFacts_val (by rfl) (fun w1 hL hd K hK => ?_) ?_
                  · go_simp
                    exact hK _ (Lat.refl _)
                  refine wpFacts_norm (by simp only [Act.put, List.setIfInBounds_toArray, List.set_cons_zero, List.set_cons_succ]; rfl) (by simp only [List.cons_append, List.nil_append]; rfl) ?_
                  intro w1 hL ha
                  obtain ⟨d0, d1, d2⟩ := HC.out w1 hL
                  have hA1 : Hid _ := hA.out.later hL.of_drew
                  obtain ⟨_, f1⟩ := hA1.out.cell m hml
                  have hX1 := (World.ownsRow.lt hA1.out.xb X rfl).2
                  have N1 : Hid (VInv w (w1.setCell ⟨X, m, none⟩ (.bool ok)) g ⟨ta, tc, na, nc, some ⟨rb, ro, none⟩, rc⟩ H X cX b ((g.rules.take (q + 1)).foldl (Nl.by2 b) b)) := by
                    rw [ST.out, ← by2_set b cs m yr hml, hv, hE2]
                    exact hA1.out.set m _
                  clear ha hL HC hA hA1 ST hcs hE2 hv
                  go_wp2_with fail
                  go_roundw
                  case rel => exact ⟨q + 1, by omega, by go_num, N1⟩
                  case measure => simp [intOf]; omega
              · refine wp_region_lat [.val (.slice (some ⟨X, 0, none⟩) (g.terms.length + g.names.length) cX), .val (.pointer (some ⟨w.heap.size, 2, none⟩)), .val (.slice (some ⟨rb, ro, none⟩) g.rules.length rc), .val (.int .i64 q), .val (.pointer (some ⟨rb, ro + q * 2, none⟩)), .val (.pointer (some ⟨rb, ro + q * 2, none⟩)), .val (.int .i64 m), .val (.slice (some ⟨X, 0, none⟩) (g.terms.length + g.names.length) cX), .val (.pointer (some ⟨w.heap.size, 2, none⟩)), .val (.slice (some ⟨rb, ro, none⟩) g.rules.length rc), .val (.int .i64 q), .val (.pointer (some ⟨rb, ro + q * 2, none⟩)), .val (.pointer (some ⟨rb, ro + q * 2, none⟩)), .val (.int .i64 m), .val (.pointer (some ⟨X, m, none⟩)), .val (.bool true), .val (.bool true), .val undef, .val (.bool true), .val (.pointer (some ⟨X, m, none⟩))] [_] (by kernel_rfl) (by kernel_rfl) rfl ?kept ?walk
                case kept => exact trivial
                case walk =>
                  refine wpFacts_val (by rfl) (fun w1 hL hd K hK => ?_) ?_
                  · go_simp
                    exact hK _ (Lat.refl _)
                  refine wpFacts_norm (by simp only [Act.put, List.setIfInBounds_toArray, List.set_cons_zero, List.set_cons_succ]; rfl) (by simp only [List.nil_append]; rfl) ?_
                  refine wpFacts_val (by rfl) (fun w1 hL hd K hK => ?_) ?_
                  · go_simp
                    exact hK _ (Lat.refl _)
                  refine wpFacts_norm (by simp only [Act.put, List.setIfInBounds_toArray, List.set_cons_zero, List.set_cons_succ]; rfl) (by simp only [List.cons_append, List.nil_append]; rfl) ?_
                  refine wpFacts_val (by rfl) (fun w1 hL hd K hK => ?_) ?_
                  · obtain ⟨d0, d1, d2⟩ := HC.out w1 hL
                    go_simp
                    exact hK _ (Lat.refl _)
                  refine wpFacts_norm (by simp only [Act.put, List.setIfInBounds_toArray, List.set_cons_zero, List.set_cons_succ]; rfl) (by simp only [List.cons_append, List.nil_append]; rfl) ?_
                  refine wpFacts_val (by rfl) (fun w1 hL hd K hK => ?_) ?_
                  · go_simp
                    exact hK _ (Lat.refl _)
                  refine wpFacts_norm (by simp only [Act.put, List.setIfInBounds_toArray, List.set_cons_zero, List.set_cons_succ]; rfl) (by simp only [List.cons_append, List.nil_append]; rfl) ?_
                  refine wpFacts_val (by rfl) (fun w1 hL hd K hK => ?_) ?_
                  · go_simp
                    exact hK _ (Lat.refl _)
                  refine wpFacts_norm (by simp only [Act.put, List.setIfInBounds_toArray, List.set_cons_zero, List.set_cons_succ]; rfl) (by simp only [List.cons_append, List.nil_append]; rfl) ?_
                  refine wpFacts_val (by rfl) (fun w1 hL hd K hK => ?_) ?_
                  · go_simp
                    exact hK _ (Lat.refl _)
                  refine wpFacts_norm (by simp only [Act.put, List.setIfInBounds_toArray, List.set_cons_zero, List.set_cons_succ]; rfl) (by simp only [List.cons_append, List.nil_append]; rfl) ?_
                  refine wpFacts_val (by rfl) (fun w1 hL hd K hK => ?_) ?_
                  · obtain ⟨d0, d1, d2⟩ := HC.out w1 hL
                    go_simp
                    exact hK _ (Lat.refl _)
                  refine wpFacts_norm (by simp only [Act.put, List.setIfInBounds_toArray, List.set_cons_zero, List.set_cons_succ]; rfl) (by simp only [List.cons_append, List.nil_append]; rfl) ?_
                  refine wpFacts_val (by rfl) (fun w1 hL hd K hK => ?_) ?_
                  · go_simp
                    exact hK _ (Lat.refl _)
                  refine wpFacts_norm (by simp only [Act.put, List.setIfInBounds_toArray, List.set_cons_zero, List.set_cons_succ]; rfl) (by simp only [List.cons_append, List.nil_append]; rfl) ?_
                  refine wpFacts_val (by rfl) (fun w1 hL hd K hK => ?_) ?_
                  · go_simp
                    exact hK _ (Lat.refl _)
                  refine wpFacts_norm (by simp only [Act.put, List.setIfInBounds_toArray, List.set_cons_zero, List.set_cons_succ]; rfl) (by simp only [List.cons_append, List.nil_append]; rfl) ?_
                  refine wpFacts_val (by rfl) (fun w1 hL hd K hK => ?_) ?_
                  · obtain ⟨d0, d1, d2⟩ := HC.out w1 hL
                    go_simp
                    exact hK _ (Lat.refl _)
                  refine wpFacts_norm (by simp only [Act.put, List.setIfInBounds_toArray, List.set_cons_zero, List.set_cons_succ]; rfl) (by simp only [List.cons_append, List.nil_append]; rfl) ?_
                  refine wpFacts_val (by rfl) (fun w1 hL hd K hK => ?_) ?_
                  · go_simp
                    exact hK _ (Lat.refl _)
                  refine wpFacts_norm (by simp only [Act.put, List.setIfInBounds_toArray, List.set_cons_zero, List.set_cons_succ]; rfl) (by simp only [List.cons_append, List.nil_append]; rfl) ?_
                  refine wpFacts_val (by rfl) (fun w1 hL hd K hK => ?_) ?_
                  · go_simp
                    exact hK _ (Lat.refl _)
                  refine wpFacts_norm (by simp only [Act.put, List.setIfInBounds_toArray, List.set_cons_zero, List.set_cons_succ]; rfl) (by simp only [List.cons_append, List.nil_append]; rfl) ?_
                  refine wpFacts_val (by rfl) (fun w1 hL hd K hK => ?_) ?_
                  · go_simp
                    exact hK _ (Lat.refl _)
                  refine wpFacts_norm (by simp only [Act.put, List.setIfInBounds_toArray, List.set_cons_zero, List.set_cons_succ]; rfl) (by simp only [List.cons_append, List.nil_append]; rfl) ?_
                  refine wpFacts_val (by rfl) (fun w1 hL hd K hK => ?_) ?_
                  · obtain ⟨d0, d1, d2⟩ := HC.out w1 hL
                    go_simp
                    exact hK _ (Lat.refl _)
                  refine wpFacts_norm (by simp only [Act.put, List.setIfInBounds_toArray, List.set_cons_zero, List.set_cons_succ]; rfl) (by simp only [List.cons_append, List.nil_append]; rfl) ?_
                  refine wpFacts_val (by rfl) (fun w1 hL hd K hK => ?_) ?_
                  · go_simp
                    exact hK _ (Lat.refl _)
                  refine wpFacts_norm (by simp only [Act.put, List.setIfInBounds_toArray, List.set_cons_zero, List.set_cons_succ]; rfl) (by simp only [List.cons_append, List.nil_append]; rfl) ?_
                  refine wpFacts_val (by rfl) (fun w1 hL hd K hK => ?_) ?_
                  · obtain ⟨d0, d1, d2⟩ := HC.out w1 hL
                    go_simp
                    exact hK _ (Lat.refl _)
                  refine wpFacts_norm (by simp only [Act.put, List.setIfInBounds_toArray, List.set_cons_zero, List.set_cons_succ]; rfl) (by simp only [List.cons_append, List.nil_append]; rfl) ?_
                  refine wpFacts_val (by rfl) (fun w1 hL hd K hK => ?_) ?_
                  · go_simp
                    exact hK _ (Lat.refl _)
                  refine wpFacts_norm (by simp only [Act.put, List.setIfInBounds_toArray, List.set_cons_zero, List.set_cons_succ]; rfl) (by simp only [List.cons_append, List.nil_append]; rfl) ?_
                  refine wpFacts_skip (by rfl) ?_
                  refine wpFacts_norm (by simp only [Act.put, List.setIfInBounds_toArray, List.set_cons_zero, List.set_cons_succ]; rfl) (by simp only [List.cons_append, List.nil_append]; rfl) ?_
                  refine wpFacts_val (by rfl) (fun w1 hL hd K hK => ?_) ?_
                  · go_simp
                    exact hK _ (Lat.refl _)
                  refine wpFacts_norm (by simp only [Act.put, List.setIfInBounds_toArray, List.set_cons_zero, List.set_cons_succ]; rfl) (by simp only [List.cons_append, List.nil_append]; rfl) ?_
                  refine wpFacts_val (by rfl) (fun w1 hL hd K hK => ?_) ?_
                  · go_simp
                    exact hK _ (Lat.refl _)
                  refine wpFacts_norm (by simp only [Act.put, List.setIfInBounds_toArray, List.set_cons_zero, List.set_cons_succ]; rfl) (by simp only [List.cons_append, List.nil_append]; rfl) ?_
                  intro w1 hL ha
                  obtain ⟨d0, d1, d2⟩ := HC.out w1 hL
                  have hA1 : Hid _ := hA.out.later hL.of_drew
                  obtain ⟨_, f1⟩ := hA1.out.cell m hml
                  have hX1 := (World.ownsRow.lt hA1.out.xb X rfl).2
                  have N1 : Hid (VInv w (w1.setCell ⟨X, m, none⟩ (.bool true)) g ⟨ta, tc, na, nc, some ⟨rb, ro, none⟩, rc⟩ H X cX b ((g.rules.take (q + 1)).foldl (Nl.by2 b) b)) := by
                    rw [ST.out, ← by2_set b cs m yr hml, hv, hE2]
                    exact hA1.out.set m _
                  clear ha hL HC hA hA1 ST hcs hE2 hv
                  go_wp2_with fail
                  go_roundw
                  case rel => exact ⟨q + 1, by omega, by go_num, N1⟩
                  case measure => simp [intOf]; omega
        · have hqi : ¬ (q : Int) < (g.rules.length : Int) := by omega
          have e : q = g.rules.length := by omega
          subst e
          rw [List.take_length] at hA
          have hR2 : Hid _ := hR.out.step2 HF.out
          have hU2 : Hid (Below w.heap.size w wr ∧ wr.heap[w.heap.size]? = some (.cells #[.slice ta g.terms.length tc, .slice na g.names.length nc, .slice ra g.rules.length rc] 26 (0, 0)) ∧ BoolsAt wr.heap.size wr (some ⟨X, 0, none⟩) (Nl.pass2 g.rules b)) := by
            refine ⟨hA.out.below, hA.out.gb, ?_⟩
            obtain ⟨_, _, e, h1⟩ := OwnBools.read hA.out.xb (by rw [by2_len, hln]; omega)
            cases e
            exact h1
          clear hR hA
          go_wp2_with fail
          go_roundw
          case rel => exact ⟨k + 1, X, cX, _, by omega, by go_num, rfl, hU2, hR2⟩
          case measure => simp [intOf]; omega
    · have hki : ¬ (k : Int) < (g.names.length : Int) := by omega
      have hd := hR.out.done HF.out (by omega)
      go_wp2_with (go_at_call 18; fail)
      refine Calls.mono (HOF.out _ hU.out.1) ?_
      rintro e w5 ⟨bo, bc, rfl, hb5, hbb5⟩
      have HB5 : Hid (Below w.heap.size w w5) := hU.out.1.trans (hbb5.out.mono hU.out.1.size)
      have HQ : Hid (Calls Try.prog 17 #[.slice bo (Nl.of g).length bc, .slice (some ⟨H, 0, none⟩) (g.terms.length + g.names.length) cH] w5 fun e w' => e = .returned (.bool true) ∧ Below w5.heap.size w5 w') := by
        rw [← hln]
        exact keepBools_is true (Nl.of g) b (Nat.le_trans (Nl.of_small g) (by omega)) bo _ bc cH w5 hb5.out (hU.out.2.2.next hbb5.out) (by rw [R.out, hd]) rfl
      clear g0 g1 g2 hb5 hbb5 hU hR HOF
      go_wp2_with (go_at_call 17; fail)
      refine Calls.mono HQ.out ?_
      rintro e w6 ⟨rfl, hb6⟩
      have HB6 : Hid (Below w.heap.size w w6) := HB5.out.trans (hb6.mono HB5.out.size)
      clear HQ HB5 hb6
      go_wp2_with (go_at_call 16; refine Calls.mono (nwakes_any _) ?_; rintro e w3 ⟨rfl, hb3⟩)
      go_ret
      exact ⟨rfl, HB6.out.trans (hb3.mono HB6.out.size)⟩

theorem nullableRounds_walk (g : Gr.Gm) (A : GA) (w : World) (h : GmAt w.heap.size w g A) (hr : ∀ r ∈ g.rules, r.2.length ≤ maxLen ∧ rlWf r) :
    Calls Try.prog 8 #[.agg (gmCells g A)] w fun e w' => e = .returned (.bool true) ∧ Below w.heap.size w w' := by
  have hm : ∀ r ∈ g.rules, r.2.length ≤ maxLen := fun r h => (hr r h).1
  cases hl : Gr.large g
  · cases hg : Gr.good g
    · exact nullableRounds_out g A w h hm (.inr ⟨hl, hg⟩)
    · exact nullableRounds_in g A w h hm hl hg
  · exact nullableRounds_out g A w h hm (.inl hl)
end Go.Proofs.Ytimjopaedfefmaa
