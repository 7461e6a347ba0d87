/-
  The law FollowLast, walked: it returns true, of every grammar.
-/
import Derived.Test.YtdocbgfpnaiijaaFoLaw
import Derived.Test.YtdocbgfpnaiijaaFoBfs
import Derived.Test.YtdocbgfpnaiijaaRuleLib
import Derived.Test.YtdocbgfpnaiijaaSchRef
import Derived.Test.YtdocbgfpnaiijaaFoBegun
import Derived.Test.YtdocbgfpnaiijaaGrRefGood
namespace Go.Proofs.Ytdocbgfpnaiijaa
open Go.RowKit Go.Conc

theorem wpFacts_skip9 {P : Program} {ops : Array Oper} {w0 : World} {Q : Exit → Act → World → Prop} {all ss : List Spec} {tl : List Oper} {o : Oper} {rest : List Oper} {vs : List Value} {a : Act} (hw : Region.wanted o (yielded ops a.tmps) = false)
    (h2 : wpFacts P ops Lat w0 Q all tl ss rest (vs ++ [undef]) (a.put o.dst undef)) : wpFacts P ops Lat w0 Q all tl (.val undef :: ss) (o :: rest) vs a :=
  ⟨fun w hR hd => by unfold StepF; rw [if_neg (by rw [hw]; simp)]; rfl, h2⟩
theorem Fo.lastG_len2 {g : Gr.Gm} (hg : Gr.good g = true) : (Fo.lastG g).length = g.names.length := by
  unfold Fo.lastG
  rw [if_pos hg, List.length_map, (Fo.tabG_shape g).len]
theorem Fo.lastG_is {g : Gr.Gm} (hg : Gr.good g = true) {inn : List Bool} (hl : inn.length = g.names.length) (h : ∀ x : Int, Nl.isAt inn x = true ↔ Fo.Fol g.rules (Nl.of g) g.terms.length (g.terms.length + g.names.length) x ((g.terms.length + g.names.length : Nat) : Int)) : Fo.lastG g = inn := by
  refine List.ext_getElem (by rw [Fo.lastG_len2 hg, hl]) fun k h1 h2 => ?_
  have hk : k < g.names.length := by omega
  have hkt : k < (Fo.tabG g).length := by rw [(Fo.tabG_shape g).len]; exact hk
  have hrl : (Fo.tabG g)[k].length = g.terms.length + g.names.length + 1 := (Fo.tabG_shape g).each _ (List.getElem_mem hkt)
  have e1 : (Fo.lastG g)[k] = Fi.has (Fo.tabG g) (k : Int) ((g.terms.length + g.names.length : Nat) : Int) := by
    have hq : g.terms.length + g.names.length < (Fo.tabG g)[k].length := by omega
    have e0 : Fi.row (Fo.tabG g) (k : Int) = (Fo.tabG g)[k] := by simp [Fi.row, List.getD_eq_getElem?_getD, hkt]
    unfold Fi.has
    rw [e0, Nl.isAt_nat]
    unfold Fo.lastG
    simp [hg]
  have e2 : Nl.isAt inn (k : Int) = inn[k] := by rw [Nl.isAt_get (by omega) (by simpa using h2)]; simp
  rw [e1, ← e2]
  have hR : Fi.has (Fo.tabG g) (k : Int) ((g.terms.length + g.names.length : Nat) : Int) = true ↔ Nl.isAt inn (k : Int) = true := by
    rw [h]
    unfold Fo.tabG
    rw [Fo.tab_has]
    exact ⟨fun q => q.2.2, fun q => ⟨⟨by omega, by omega⟩, ⟨by omega, by omega⟩, q⟩⟩
  cases hA : Fi.has (Fo.tabG g) (k : Int) ((g.terms.length + g.names.length : Nat) : Int) <;> cases hB : Nl.isAt inn (k : Int)
  · rfl
  · rw [hA, hB] at hR; exact absurd (hR.2 rfl) (by simp)
  · rw [hA, hB] at hR; exact absurd (hR.1 rfl) (by simp)
  · rfl

set_option maxRecDepth 100000 in
set_option maxHeartbeats 3200000 in
theorem followLast_out (g : Gr.Gm) (A : GA) (w : World) (h : GmAt w.heap.size w g A) (hm : ∀ r ∈ g.rules, r.2.length ≤ maxLen) (hl : Gr.large g = true ∨ Gr.large g = false ∧ (Gr.good g = false ∨ Gr.good g = true ∧ (Fo.light g = false))) :
    Calls Try.prog 3 #[.agg (gmCells g A)] w fun e w' => e = .returned (.bool true) ∧ Below w.heap.size w w' := by
  obtain ⟨ta, tc, na, nc, ra, rc⟩ := A
  have hbW : Hid (Below w.heap.size w (w.alloc (Obj.cells #[.slice ta g.terms.length tc, .slice na g.names.length nc, .slice ra g.rules.length rc] 25))) := (Below.refl _ w).alloc (Nat.le_refl _) _
  have b0 : Hid ((w.alloc (Obj.cells #[.slice ta g.terms.length tc, .slice na g.names.length nc, .slice ra g.rules.length rc] 25)).heap[w.heap.size]? = some (.cells #[.slice ta g.terms.length tc, .slice na g.names.length nc, .slice ra g.rules.length rc] 25 (0, 0))) := heap_alloc_new w _
  have HLG : Hid (∀ (r : Bool) (W : World), Below w.heap.size w W → Gr.large g = r → Calls Try.prog 8 #[.agg (gmCells g ⟨ta, tc, na, nc, ra, rc⟩)] W fun e w' => e = .returned (.bool r) ∧ Below W.heap.size W w') := fun r W hW hl => large_is r g _ W hm (h.later hW).size hl
  have HGD : Hid (∀ (r : Bool) (W : World), Below w.heap.size w W → Gr.good g = r → Calls Try.prog 9 #[.agg (gmCells g ⟨ta, tc, na, nc, ra, rc⟩)] W fun e w' => e = .returned (.bool r) ∧ Below W.heap.size W w') := fun r W hW hr => refGood_any r g _ W hm (h.next hW) (by rw [Gr.refGood_is]; exact hr)
  have HSM : Hid (∀ (r : Bool) (W : World), Fo.light g = r → Calls Try.prog 10 #[.agg (gmCells g ⟨ta, tc, na, nc, ra, rc⟩)] W fun e w' => e = .returned (.bool r) ∧ Below W.heap.size W w') := fun r W hr => small9_is r g _ W hr
  simp only [gmCells] at HLG HGD HSM ⊢
  clear h hm
  rcases hl with hl | ⟨hl, ho⟩
  · have HL1 : Hid (∀ _ : Unit, _) := fun _ => HLG.out true _ hbW.out hl
    clear HLG hl HGD HSM
    go_enter Try.func3, Try.ntmps3
    go_wp2_with (first | (go_at_call 8; refine Calls.mono (HL1.out ()) ?_; rintro e w1 ⟨rfl, hb1⟩) | (go_at_call 11; refine Calls.mono (fowakes_any _) ?_; rintro e w3 ⟨rfl, hb3⟩))
    go_ret
    exact ⟨rfl, (hbW.out.trans (hb1.mono hbW.out.size)).trans (hb3.mono (hbW.out.trans (hb1.mono hbW.out.size)).size)⟩
  · have HL1 : Hid (∀ _ : Unit, _) := fun _ => HLG.out false _ hbW.out hl
    clear HLG hl
    rcases ho with hg | ⟨hg, h8⟩
    · have HG1 : Hid (∀ (W : World), Below w.heap.size w W → _) := fun W hW => HGD.out false W hW hg
      clear hg HGD HSM
      go_enter Try.func3, Try.ntmps3
      go_wp2_with (go_at_call 8; fail)
      generalize (w.alloc (Obj.cells #[.slice ta g.terms.length tc, .slice na g.names.length nc, .slice ra g.rules.length rc] 25)) = W at *
      refine Calls.mono (HL1.out ()) ?_
      rintro e w1 ⟨rfl, hb1⟩
      have HB1 : Hid (Below w.heap.size w w1) := hbW.out.trans (hb1.mono hbW.out.size)
      obtain ⟨g0, g1, g2, _⟩ := cells_three_z ((hb1.block _ (Array.getElem?_eq_some_iff.1 b0.out).1).trans b0.out)
      clear hb1 b0 hbW HL1
      go_wp2_with (go_at_call 9; fail)
      refine Calls.mono (HG1.out _ HB1.out) ?_
      rintro e w2 ⟨rfl, hb2⟩
      have HB2 : Hid (Below w.heap.size w w2) := HB1.out.trans (hb2.mono HB1.out.size)
      clear g0 g1 g2 hb2 HB1 HG1
      go_wp2_with (go_at_call 11; refine Calls.mono (fowakes_any _) ?_; rintro e w3 ⟨rfl, hb3⟩)
      go_ret
      exact ⟨rfl, HB2.out.trans (hb3.mono HB2.out.size)⟩
    · have HG1 : Hid (∀ (W : World), Below w.heap.size w W → _) := fun W hW => HGD.out true W hW hg
      clear hg HGD
      go_enter Try.func3, Try.ntmps3
      go_wp2_with (go_at_call 8; fail)
      generalize (w.alloc (Obj.cells #[.slice ta g.terms.length tc, .slice na g.names.length nc, .slice ra g.rules.length rc] 25)) = W at *
      refine Calls.mono (HL1.out ()) ?_
      rintro e w1 ⟨rfl, hb1⟩
      have HB1 : Hid (Below w.heap.size w w1) := hbW.out.trans (hb1.mono hbW.out.size)
      have b1 : Hid (w1.heap[w.heap.size]? = some (.cells #[.slice ta g.terms.length tc, .slice na g.names.length nc, .slice ra g.rules.length rc] 25 (0, 0))) := (hb1.block _ (Array.getElem?_eq_some_iff.1 b0.out).1).trans b0.out
      obtain ⟨g0, g1, g2, _⟩ := cells_three_z b1.out
      clear hb1 b0 hbW HL1
      go_wp2_with (go_at_call 9; fail)
      refine Calls.mono (HG1.out _ HB1.out) ?_
      rintro e w2 ⟨rfl, hb2⟩
      have HB2 : Hid (Below w.heap.size w w2) := HB1.out.trans (hb2.mono HB1.out.size)
      have b2 : Hid (w2.heap[w.heap.size]? = some (.cells #[.slice ta g.terms.length tc, .slice na g.names.length nc, .slice ra g.rules.length rc] 25 (0, 0))) := (hb2.block _ (Array.getElem?_eq_some_iff.1 b1.out).1).trans b1.out
      clear g0 g1 g2
      obtain ⟨g0, g1, g2, _⟩ := cells_three_z b2.out
      clear hb2 HB1 HG1 b1
      have hs := h8
      have HS1 : Hid (∀ (W : World), _) := fun W => HSM.out false W hs
      clear hs HSM
      go_wp2_with (go_at_call 10; fail)
      refine Calls.mono (HS1.out _) ?_
      rintro e w4 ⟨rfl, hb4⟩
      have HB4 : Hid (Below w.heap.size w w4) := HB2.out.trans (hb4.mono HB2.out.size)
      clear g0 g1 g2 hb4 HB2 HS1 b2
      go_wp2_with (go_at_call 11; refine Calls.mono (fowakes_any _) ?_; rintro e w3 ⟨rfl, hb3⟩)
      go_ret
      exact ⟨rfl, HB4.out.trans (hb3.mono HB4.out.size)⟩

set_option maxRecDepth 100000 in
set_option maxHeartbeats 25600000 in
theorem followLast_in (g : Gr.Gm) (A : GA) (w : World) (h : GmAt w.heap.size w g A) (hm : ∀ r ∈ g.rules, r.2.length ≤ maxLen) (hl : Gr.large g = false) (hg : Gr.good g = true) (hs9 : Fo.light g = true) :
    Calls Try.prog 3 #[.agg (gmCells g A)] w fun e w' => e = .returned (.bool true) ∧ Below w.heap.size w w' := by
  obtain ⟨ta, tc, na, nc, ra, rc⟩ := A
  have HM : Hid _ := hm
  have HG : Hid (GmAt w.heap.size w g ⟨ta, tc, na, nc, ra, rc⟩) := h
  obtain ⟨hsz, h8⟩ := Nl.sizes_of hg
  have H8 : Hid _ := h8
  have HF0 := Nl.fit_of hg
  have hll : (Fo.lastG g).length = g.names.length := Fo.lastG_len2 hg
  have LIS : Hid (∀ inn : List Bool, inn.length = g.names.length → (∀ x : Int, Nl.isAt inn x = true ↔ Fo.Fol g.rules (Nl.of g) g.terms.length (g.terms.length + g.names.length) x ((g.terms.length + g.names.length : Nat) : Int)) → Fo.lastG g = inn) := fun inn a b => Fo.lastG_is hg a b
  have HAL : Hid (∀ (W : World) (x : List Int) (yo : Option Addr) (yc : Nat) (r : Bool), Below w.heap.size w W → IntsAt W.heap.size W yo x → x.length ≤ 4000 → Nl.allIn (Nl.of g) x = r → Calls Try.prog 12 #[.agg (gmCells g ⟨ta, tc, na, nc, ra, rc⟩), .slice yo x.length yc] W fun e w' => e = .returned (.bool r) ∧ Below W.heap.size W w') := fun W x yo yc r hW hx h4 hr => nall_is r g _ x yo yc W hm (h.next hW) hx h4 (by simp [Nl.all, hg, hr])
  have hbW : Hid (Below w.heap.size w (w.alloc (Obj.cells #[.slice ta g.terms.length tc, .slice na g.names.length nc, .slice ra g.rules.length rc] 25))) := (Below.refl _ w).alloc (Nat.le_refl _) _
  have b0 : Hid ((w.alloc (Obj.cells #[.slice ta g.terms.length tc, .slice na g.names.length nc, .slice ra g.rules.length rc] 25)).heap[w.heap.size]? = some (.cells #[.slice ta g.terms.length tc, .slice na g.names.length nc, .slice ra g.rules.length rc] 25 (0, 0))) := heap_alloc_new w _
  have HL1 : Hid (∀ (W : World), Below w.heap.size w W → Calls Try.prog 8 #[.agg (gmCells g ⟨ta, tc, na, nc, ra, rc⟩)] W fun e w' => e = .returned (.bool false) ∧ Below W.heap.size W w') := fun W hW => large_is false g _ W hm (h.later hW).size hl
  have HGD : Hid (∀ (W : World), Below w.heap.size w W → Calls Try.prog 9 #[.agg (gmCells g ⟨ta, tc, na, nc, ra, rc⟩)] W fun e w' => e = .returned (.bool true) ∧ Below W.heap.size W w') := fun W hW => refGood_any true g _ W hm (h.next hW) (by rw [Gr.refGood_is]; exact hg)
  have HSM : Hid (∀ (W : World), Calls Try.prog 10 #[.agg (gmCells g ⟨ta, tc, na, nc, ra, rc⟩)] W fun e w' => e = .returned (.bool true) ∧ Below W.heap.size W w') := fun W => small9_is true g _ W hs9
  have HLS : Hid (∀ (W : World), Below w.heap.size w W → Calls Try.prog 14 #[.agg (gmCells g ⟨ta, tc, na, nc, ra, rc⟩)] W fun e w' => ∃ xo xc, e = .returned (.slice xo (Fo.lastG g).length xc) ∧ Hid (BoolsAt w'.heap.size w' xo (Fo.lastG g)) ∧ Hid (Below W.heap.size W w')) := fun W hW => folast_is g _ W hm (h.next hW)
  rw [hll] at HLS
  simp only [gmCells] at HL1 HGD HSM HLS HAL ⊢
  clear h hm h8 hg hl
  obtain ⟨n, hnn⟩ : ∃ n, g.terms.length + g.names.length = n := ⟨_, rfl⟩
  rw [hnn] at HF0 LIS
  have HF : Hid (Nl.Fit g.terms.length n g.rules) := HF0
  have hN0 : 0 < g.names.length := by omega
  have hN0i : (0 : Int) < (g.names.length : Int) := by omega
  have hmb := make_boolsN g.names.length (by omega)
  clear HF0
  go_enter Try.func3, Try.ntmps3
  go_wp2_with (go_at_call 8; fail)
  generalize (w.alloc (Obj.cells #[.slice ta g.terms.length tc, .slice na g.names.length nc, .slice ra g.rules.length rc] 25)) = W at *
  refine Calls.mono (HL1.out _ hbW.out) ?_
  rintro e w1 ⟨rfl, hb1⟩
  have b1 : Hid (w1.heap[w.heap.size]? = some (.cells #[.slice ta g.terms.length tc, .slice na g.names.length nc, .slice ra g.rules.length rc] 25 (0, 0))) := (hb1.block _ (Array.getElem?_eq_some_iff.1 b0.out).1).trans b0.out
  have HB1 : Hid (Below w.heap.size w w1) := hbW.out.trans (hb1.mono hbW.out.size)
  obtain ⟨g0, g1, g2, _⟩ := cells_three_z b1.out
  clear hb1 b0 hbW HL1
  go_wp2_with (go_at_call 9; fail)
  refine Calls.mono (HGD.out _ HB1.out) ?_
  rintro e w2 ⟨rfl, hb2⟩
  have b2 : Hid (w2.heap[w.heap.size]? = some (.cells #[.slice ta g.terms.length tc, .slice na g.names.length nc, .slice ra g.rules.length rc] 25 (0, 0))) := (hb2.block _ (Array.getElem?_eq_some_iff.1 b1.out).1).trans b1.out
  have HB2 : Hid (Below w.heap.size w w2) := HB1.out.trans (hb2.mono HB1.out.size)
  clear g0 g1 g2 hb2 HB1 HGD b1
  obtain ⟨g0, g1, g2, _⟩ := cells_three_z b2.out
  go_wp2_with (go_at_call 10; fail)
  refine Calls.mono (HSM.out _) ?_
  rintro e w5 ⟨rfl, hb5⟩
  have b5 : Hid (w5.heap[w.heap.size]? = some (.cells #[.slice ta g.terms.length tc, .slice na g.names.length nc, .slice ra g.rules.length rc] 25 (0, 0))) := (hb5.block _ (Array.getElem?_eq_some_iff.1 b2.out).1).trans b2.out
  have HB5 : Hid (Below w.heap.size w w5) := HB2.out.trans (hb5.mono HB2.out.size)
  clear g0 g1 g2 hb5 HB2 HSM b2
  obtain ⟨g0, g1, g2, _⟩ := cells_three_z b5.out
  have hz5 := (Array.getElem?_eq_some_iff.1 b5.out).1
  go_upto_region 5 with fail
  have hb6 : Hid (Below w5.heap.size w5 (w5.alloc (.cells (Array.replicate g.names.length (Value.bool false)) 4))) := (Below.refl _ w5).alloc (Nat.le_refl _) _
  have a6 : Hid ((w5.alloc (.cells (Array.replicate g.names.length (Value.bool false)) 4)).heap[w5.heap.size]? = some (.cells ((List.replicate g.names.length false).map Value.bool).toArray 4 (0, 0))) := by
    show _ = _; rw [heap_alloc_new]; simp
  generalize (w5.alloc (.cells (Array.replicate g.names.length (Value.bool false)) 4)) = W6 at *
  obtain ⟨M, hME⟩ : ∃ M, w5.heap.size = M := ⟨_, rfl⟩
  have ME : Hid (w5.heap.size = M) := hME
  have hMz : w.heap.size < M := by rw [← hME]; exact hz5
  rw [hME] at a6 hb6 ⊢
  have c6 : W6.cell? ⟨M, 0, none⟩ = some (.bool false) := by
    have := (bools_cell a6.out 0 (by simp; exact hN0)).1
    simpa using this
  have f6 : W6.frozen? ⟨M, 0, none⟩ = false := (bools_cell a6.out 0 (by simp; exact hN0)).2
  have hl6 := (Array.getElem?_eq_some_iff.1 a6.out).1
  have a7 : Hid ((W6.setCell ⟨M, 0, none⟩ (.bool true)).heap[M]? = some (.cells ((Nl.tell (List.replicate g.names.length false) 0).map Value.bool).toArray 4 (0, 0))) := by
    show _ = _
    have := bools_set a6.out 0 true
    simpa [Nl.tell] using this
  have hb7 : Hid (Below M w5 (W6.setCell ⟨M, 0, none⟩ (.bool true))) := hb6.out.setCell (Nat.le_refl _) _
  clear g0 g1 g2 hz5 hME a6 hb6 hmb
  go_upto_region 6 with fail
  generalize (W6.setCell ⟨M, 0, none⟩ (.bool true)) = W7 at *
  clear c6 f6 hl6
  have hl7 := (Array.getElem?_eq_some_iff.1 a7.out).1
  have hb8 : Hid (Below M w5 (W7.alloc (Obj.cells #[.int .i64 (g.terms.length : Int)] 3))) := hb7.out.alloc (Nat.le_of_lt hl7) _
  have a8 : Hid ((W7.alloc (Obj.cells #[.int .i64 (g.terms.length : Int)] 3)).heap[M]? = some (.cells ((Nl.tell (List.replicate g.names.length false) 0).map Value.bool).toArray 4 (0, 0))) := (Below.heap_alloc _ _ _ hl7).trans a7.out
  have o8 : Hid (OwnInts M (W7.alloc (Obj.cells #[.int .i64 (g.terms.length : Int)] 3)) (.slice (some ⟨W7.heap.size, 0, none⟩) 1 1) [(g.terms.length : Int)]) :=
    ⟨rfl, .inr ⟨W7.heap.size, 1, #[.int .i64 (g.terms.length : Int)], rfl, Nat.le_of_lt hl7, heap_alloc_new _ _, Nat.le_refl _, by unfold maxLen; omega, rfl, rfl⟩⟩
  have s8 : Hid (Fo.LB g.names.length g.terms.length n g.rules (Nl.of g) (Nl.tell (List.replicate g.names.length false) 0) [(g.terms.length : Int)] 0 0 0) := Fo.LB.begin hN0
  go_upto_region 7 with fail
  generalize hW8 : (W7.alloc (Obj.cells #[.int .i64 (g.terms.length : Int)] 3)) = W8 at *
  clear hW8 a7 hb7 hl7
  have HBB : Hid (∀ W : World, Below M w5 W → Below w.heap.size w W ∧ W.heap[w.heap.size]? = some (.cells #[.slice ta g.terms.length tc, .slice na g.names.length nc, .slice ra g.rules.length rc] 25 (0, 0))) := fun W hW =>
    ⟨HB5.out.trans (hW.mono (Nat.le_of_lt hMz)), (hW.block _ hMz).trans b5.out⟩
  have HMZ : Hid (∀ W : World, Below M w5 W → M ≤ W.heap.size) := fun W hW => by
    have := hW.size
    rw [ME.out] at this; exact this
  clear b5 HB5 ME
  go_wp2_with fail
  go_loopw [5, 6] (fun v iv wr => ∃ (i : Nat) (l : List Int) (inn : List Bool) (lo : Option Addr) (lc : Nat), i ≤ l.length ∧ v = .slice lo l.length lc ∧ iv = .int .i64 i ∧ Hid (Below M w5 wr) ∧ Hid (wr.heap[M]? = some (.cells (inn.map Value.bool).toArray 4 (0, 0))) ∧ Hid (OwnInts M wr (.slice lo l.length lc) l) ∧ Hid (Fo.LB g.names.length g.terms.length n g.rules (Nl.of g) inn l i 0 0)) (fun _ iv _ => g.names.length - (intOf iv).toNat)
  case atStart => exact ⟨0, [(g.terms.length : Int)], _, _, 1, Nat.zero_le _, rfl, rfl, hb8, a8, o8, s8⟩
  case round =>
    obtain ⟨i, l, inn, lo, lc, hi, rfl, rfl, hB, hA, hO, hS⟩ := hrel
    clear a8 o8 s8 hb8
    have hls := hS.out.small
    by_cases hil : i < l.length
    · have hii : (i : Int) < (l.length : Int) := by omega
      have hin : i < g.names.length := by omega
      go_wp2_with fail
      go_loopw [5, 7] (fun v rv wr => ∃ (r : Nat) (l : List Int) (inn : List Bool) (lo : Option Addr) (lc : Nat), r ≤ g.rules.length ∧ v = .slice lo l.length lc ∧ rv = .int .i64 r ∧ i < l.length ∧ Hid (Below M w5 wr) ∧ Hid (wr.heap[M]? = some (.cells (inn.map Value.bool).toArray 4 (0, 0))) ∧ Hid (OwnInts M wr (.slice lo l.length lc) l) ∧ Hid (Fo.LB g.names.length g.terms.length n g.rules (Nl.of g) inn l i r 0)) (fun _ rv _ => g.rules.length - (intOf rv).toNat)
      case atStart => exact ⟨0, l, inn, lo, lc, Nat.zero_le _, rfl, rfl, hil, hB, hA, hO, hS⟩
      case round =>
        obtain ⟨r, l, inn, lo, lc, hr, rfl, rfl, hil, hB, hA, hO, hS⟩ := hrel
        obtain ⟨HBw, hgb⟩ := HBB.out wr hB.out
        obtain ⟨g0, g1, g2, _⟩ := cells_three_z hgb
        have hgz := (Array.getElem?_eq_some_iff.1 hgb).1
        clear hgb
        by_cases hrl : r < g.rules.length
        · have hri : (r : Int) < (g.rules.length : Int) := by omega
          have hmm2 : g.rules[r] ∈ g.rules := List.getElem_mem hrl
          have h8 := H8.out _ hmm2
          have hxin := HF.out.right _ hmm2
          have hlf := HF.out.left _ hmm2
          have HADD : Hid (∀ (l : List Int) (inn : List Bool) (k : Nat) (_ : i < l.length) (hk : k < g.rules[r].2.length), Fo.LB g.names.length g.terms.length n g.rules (Nl.of g) inn l i r k → l.getD i 0 = g.rules[r].1 → (g.terms.length : Int) ≤ g.rules[r].2[k] → Nl.allIn (Nl.of g) (g.rules[r].2.drop (k + 1)) = true → g.rules[r].2[k] - (g.terms.length : Int) < (g.names.length : Int) → Nl.isAt inn (g.rules[r].2[k] - (g.terms.length : Int)) = false → Fo.LB g.names.length g.terms.length n g.rules (Nl.of g) (Nl.tell inn (g.rules[r].2[k] - (g.terms.length : Int))) (l ++ [g.rules[r].2[k]]) i r (k + 1)) := fun l inn k hi hk h e a b c d => h.add hi hrl hk (by rw [← e]; simp [List.getD_eq_getElem?_getD, hi]) a b c d
          have HSK : Hid (∀ (l : List Int) (inn : List Bool) (k : Nat) (hk : k < g.rules[r].2.length), Fo.LB g.names.length g.terms.length n g.rules (Nl.of g) inn l i r k → ((g.terms.length : Int) ≤ g.rules[r].2[k] → Nl.allIn (Nl.of g) (g.rules[r].2.drop (k + 1)) = true → Nl.isAt inn (g.rules[r].2[k] - (g.terms.length : Int)) = true) → Fo.LB g.names.length g.terms.length n g.rules (Nl.of g) inn l i r (k + 1)) := fun l inn k hk h a => h.skip hrl hk a
          have HRa : Hid (∀ (l : List Int) (inn : List Bool) (k : Nat), Fo.LB g.names.length g.terms.length n g.rules (Nl.of g) inn l i r k → i < l.length → (l.getD i 0 = g.rules[r].1 → k = g.rules[r].2.length) → Fo.LB g.names.length g.terms.length n g.rules (Nl.of g) inn l i (r + 1) 0) := fun l inn k h hi a => h.other fun hi' _ e => a (by rw [e]; simp [List.getD_eq_getElem?_getD, hi'])
          obtain ⟨rb, ro, yo, yc, rfl, _, _, k0, k1, ki, _⟩ := HG.out.rules r hrl
          have HBW : Hid (Below w.heap.size w wr) := HBw
          replace k0 := cell_later HBW.out k0
          replace k1 := cell_later HBW.out k1
          have KI : Hid (IntsAt w.heap.size w yo g.rules[r].2) := ki
          clear ki hmm2 HBw
          generalize g.rules[r] = y at *
          obtain ⟨lf, rs⟩ := y
          simp only at k0 k1 h8 hxin hlf HADD HSK HRa KI
          have hbn : Hid (Below wr.heap.size wr (wr.alloc (Obj.cells #[.int .i64 lf, .slice yo rs.length yc] 31))) := (Below.refl _ wr).alloc (Nat.le_refl _) _
          have kn : Hid ((wr.alloc (Obj.cells #[.int .i64 lf, .slice yo rs.length yc] 31)).heap[wr.heap.size]? = some (.cells #[.int .i64 lf, .slice yo rs.length yc] 31 (0, 0))) := heap_alloc_new wr _
          have hB1 : Hid (Below M w5 (wr.alloc (Obj.cells #[.int .i64 lf, .slice yo rs.length yc] 31))) := hB.out.trans (hbn.out.mono (HMZ.out _ hB.out))
          have hMR := (Array.getElem?_eq_some_iff.1 hA.out).1
          have hA1 : Hid ((wr.alloc (Obj.cells #[.int .i64 lf, .slice yo rs.length yc] 31)).heap[M]? = some (.cells (inn.map Value.bool).toArray 4 (0, 0))) := (hbn.out.block _ hMR).trans hA.out
          have hO1 : Hid (OwnInts M (wr.alloc (Obj.cells #[.int .i64 lf, .slice yo rs.length yc] 31)) (.slice lo l.length lc) l) := ownsRow_below hO.out hbn.out
          clear hB hA hO hbn HBW
          go_wp2_with fail
          generalize (wr.alloc (Obj.cells #[.int .i64 lf, .slice yo rs.length yc] 31)) = Wr at *
          generalize wr.heap.size = R at *
          clear k0 k1 g0 g1 g2 hgz
          go_loopw [5, 9] (fun v kv wr => ∃ (k : Nat) (l : List Int) (inn : List Bool) (lo : Option Addr) (lc : Nat), k ≤ rs.length ∧ v = .slice lo l.length lc ∧ kv = .int .i64 k ∧ i < l.length ∧ Hid (Below M w5 wr) ∧ Hid (wr.heap[M]? = some (.cells (inn.map Value.bool).toArray 4 (0, 0))) ∧ Hid (OwnInts M wr (.slice lo l.length lc) l) ∧ Hid (wr.heap[R]? = some (.cells #[.int .i64 lf, .slice yo rs.length yc] 31 (0, 0))) ∧ Hid (Fo.LB g.names.length g.terms.length n g.rules (Nl.of g) inn l i r k)) (fun _ kv _ => rs.length - (intOf kv).toNat)
          case atStart => exact ⟨0, l, inn, lo, lc, Nat.zero_le _, rfl, rfl, hil, hB1, hA1, hO1, kn, hS⟩
          case round =>
            obtain ⟨k, l, inn, lo, lc, hk, rfl, rfl, hil, hB, hA, hO, hRb, hS⟩ := hrel
            clear hB1 hA1 hO1 kn
            have hls := hS.out.small
            have hii : (i : Int) < (l.length : Int) := by omega
            obtain ⟨lo2, lc2, e2, LI, _⟩ := OwnInts.read hO.out
            obtain ⟨rfl, rfl⟩ : lo = lo2 ∧ lc = lc2 := by
              simp only [Value.slice.injEq] at e2
              exact ⟨e2.1, e2.2.2⟩
            obtain ⟨lb, lof, rfl, _, _, l0⟩ := IntsAt.get LI i hil
            have hgd : l.getD i 0 = l[i] := by simp [List.getD_eq_getElem?_getD, hil]
            rw [← hgd] at l0
            obtain ⟨fi, hfi⟩ : ∃ fi, l.getD i 0 = fi := ⟨_, rfl⟩
            rw [hfi] at l0
            have FI : Hid (l.getD i 0 = fi) := hfi
            obtain ⟨r0, r1, _⟩ := cells_two_z hRb.out
            have HC : Hid (∀ w1 : World, Lat wr.drew w1 → w1.cell? ⟨R, 0, none⟩ = some (.int .i64 lf) ∧ w1.cell? ⟨R, 1, none⟩ = some (.slice yo rs.length yc) ∧ w1.cell? ⟨lb, lof + i, none⟩ = some (.int .i64 fi)) := fun w1 hL => ⟨cell_later hL.of_drew r0, cell_later hL.of_drew r1, cell_later hL.of_drew l0⟩
            clear e2 LI hgd l0 r0 r1 hfi
            go_upto_region 15 with fail
            by_cases hkl : k < rs.length
            · have hki : (k : Int) < (rs.length : Int) := by omega
              refine wp_region_lat [.val (.int .i64 k), .val (.pointer (some ⟨R, 1, none⟩)), .val (.slice yo rs.length yc), .val (.int .i64 rs.length), .val (.bool true), .val (.bool true), .val (.pointer (some ⟨R, 0, none⟩)), .val (.int .i64 lf), .val (.slice (some ⟨lb, lof, none⟩) l.length lc), .val (.int .i64 i), .val (.pointer (some ⟨lb, lof + i, none⟩)), .val (.int .i64 fi), .val (.bool (lf == fi)), .val (.bool (lf == fi))] [] (by kernel_rfl) (by kernel_rfl) rfl ?kept ?walk
              case kept => exact trivial
              case walk =>
                refine wpFacts_val (by rfl) (fun w1 hL hd K hK => ?_) ?_
                · go_simp
                  exact hK _ (Lat.refl _)
                refine wpFacts_norm (by simp only [Act.put, List.setIfInBounds_toArray, List.set_cons_zero, List.set_cons_succ]; rfl) (by simp only [List.nil_append]; rfl) ?_
                refine wpFacts_val (by rfl) (fun w1 hL hd K hK => ?_) ?_
                · go_simp
                  exact hK _ (Lat.refl _)
                refine wpFacts_norm (by simp only [Act.put, List.setIfInBounds_toArray, List.set_cons_zero, List.set_cons_succ]; rfl) (by simp only [List.cons_append, List.nil_append]; rfl) ?_
                refine wpFacts_val (by rfl) (fun w1 hL hd K hK => ?_) ?_
                · obtain ⟨d0, d1, d2⟩ := HC.out w1 hL
                  go_simp
                  exact hK _ (Lat.refl _)
                refine wpFacts_norm (by simp only [Act.put, List.setIfInBounds_toArray, List.set_cons_zero, List.set_cons_succ]; rfl) (by simp only [List.cons_append, List.nil_append]; rfl) ?_
                refine wpFacts_val (by rfl) (fun w1 hL hd K hK => ?_) ?_
                · go_simp
                  exact hK _ (Lat.refl _)
                refine wpFacts_norm (by simp only [Act.put, List.setIfInBounds_toArray, List.set_cons_zero, List.set_cons_succ]; rfl) (by simp only [List.cons_append, List.nil_append]; rfl) ?_
                refine wpFacts_val (by rfl) (fun w1 hL hd K hK => ?_) ?_
                · go_simp
                  exact hK _ (Lat.refl _)
                refine wpFacts_norm (by simp only [Act.put, List.setIfInBounds_toArray, List.set_cons_zero, List.set_cons_succ]; rfl) (by simp only [List.cons_append, List.nil_append]; rfl) ?_
                refine wpFacts_val (by rfl) (fun w1 hL hd K hK => ?_) ?_
                · go_simp
                  exact hK _ (Lat.refl _)
                refine wpFacts_norm (by simp only [Act.put, List.setIfInBounds_toArray, List.set_cons_zero, List.set_cons_succ]; rfl) (by simp only [List.cons_append, List.nil_append]; rfl) ?_
                refine wpFacts_val (by rfl) (fun w1 hL hd K hK => ?_) ?_
                · go_simp
                  exact hK _ (Lat.refl _)
                refine wpFacts_norm (by simp only [Act.put, List.setIfInBounds_toArray, List.set_cons_zero, List.set_cons_succ]; rfl) (by simp only [List.cons_append, List.nil_append]; rfl) ?_
                refine wpFacts_val (by rfl) (fun w1 hL hd K hK => ?_) ?_
                · obtain ⟨d0, d1, d2⟩ := HC.out w1 hL
                  go_simp
                  exact hK _ (Lat.refl _)
                refine wpFacts_norm (by simp only [Act.put, List.setIfInBounds_toArray, List.set_cons_zero, List.set_cons_succ]; rfl) (by simp only [List.cons_append, List.nil_append]; rfl) ?_
                refine wpFacts_val (by rfl) (fun w1 hL hd K hK => ?_) ?_
                · go_simp
                  exact hK _ (Lat.refl _)
                refine wpFacts_norm (by simp only [Act.put, List.setIfInBounds_toArray, List.set_cons_zero, List.set_cons_succ]; rfl) (by simp only [List.cons_append, List.nil_append]; rfl) ?_
                refine wpFacts_val (by rfl) (fun w1 hL hd K hK => ?_) ?_
                · go_simp
                  exact hK _ (Lat.refl _)
                refine wpFacts_norm (by simp only [Act.put, List.setIfInBounds_toArray, List.set_cons_zero, List.set_cons_succ]; rfl) (by simp only [List.cons_append, List.nil_append]; rfl) ?_
                refine wpFacts_val (by rfl) (fun w1 hL hd K hK => ?_) ?_
                · go_simp
                  exact hK _ (Lat.refl _)
                refine wpFacts_norm (by simp only [Act.put, List.setIfInBounds_toArray, List.set_cons_zero, List.set_cons_succ]; rfl) (by simp only [List.cons_append, List.nil_append]; rfl) ?_
                refine wpFacts_val (by rfl) (fun w1 hL hd K hK => ?_) ?_
                · obtain ⟨d0, d1, d2⟩ := HC.out w1 hL
                  go_simp
                  exact hK _ (Lat.refl _)
                refine wpFacts_norm (by simp only [Act.put, List.setIfInBounds_toArray, List.set_cons_zero, List.set_cons_succ]; rfl) (by simp only [List.cons_append, List.nil_append]; rfl) ?_
                refine wpFacts_val (by rfl) (fun w1 hL hd K hK => ?_) ?_
                · go_simp
                  exact hK _ (Lat.refl _)
                refine wpFacts_norm (by simp only [Act.put, List.setIfInBounds_toArray, List.set_cons_zero, List.set_cons_succ]; rfl) (by simp only [List.cons_append, List.nil_append]; rfl) ?_
                refine wpFacts_val (by rfl) (fun w1 hL hd K hK => ?_) ?_
                · go_simp
                  exact hK _ (Lat.refl _)
                refine wpFacts_norm (by simp only [Act.put, List.setIfInBounds_toArray, List.set_cons_zero, List.set_cons_succ]; rfl) (by simp only [List.cons_append, List.nil_append]; rfl) ?_
                intro wq hLq haq
                clear haq HC
                have hLd : Hid (Below wr.heap.size wr wq) := hLq.of_drew
                have hB1 : Hid (Below M w5 wq) := hB.out.trans (hLd.out.mono (HMZ.out _ hB.out))
                have hA1 : Hid (wq.heap[M]? = some (.cells (inn.map Value.bool).toArray 4 (0, 0))) := (hLd.out.block _ (Array.getElem?_eq_some_iff.1 hA.out).1).trans hA.out
                have hR1 : Hid (wq.heap[R]? = some (.cells #[.int .i64 lf, .slice yo rs.length yc] 31 (0, 0))) := (hLd.out.block _ (Array.getElem?_eq_some_iff.1 hRb.out).1).trans hRb.out
                have hO1 : Hid (OwnInts M wq (.slice (some ⟨lb, lof, none⟩) l.length lc) l) := ownsRow_below hO.out hLd.out
                clear hLq hLd hB hA hO hRb
                by_cases heq : lf = fi
                · have hne : (lf == fi) = true := by simp [heq]
                  have hx := hxin _ (List.getElem_mem hkl)
                  obtain ⟨HBq, hgq⟩ := HBB.out wq hB1.out
                  have HBQ : Hid (Below w.heap.size w wq) := HBq
                  obtain ⟨g0, g1, g2, _⟩ := cells_three_z hgq
                  have hgz := (Array.getElem?_eq_some_iff.1 hgq).1
                  obtain ⟨xb, xof, rfl, _, _, x0⟩ := IntsAt.get (KI.out.later HBq) k hkl
                  have HADk : Hid ((g.terms.length : Int) ≤ rs[k] → Nl.allIn (Nl.of g) (rs.drop (k + 1)) = true → rs[k] - (g.terms.length : Int) < (g.names.length : Int) → Nl.isAt inn (rs[k] - (g.terms.length : Int)) = false → Fo.LB g.names.length g.terms.length n g.rules (Nl.of g) (Nl.tell inn (rs[k] - (g.terms.length : Int))) (l ++ [rs[k]]) i r (k + 1)) := fun a b c d => HADD.out l inn k hil hkl hS.out (by rw [FI.out, heq]) a b c d
                  have HSKk : Hid (((g.terms.length : Int) ≤ rs[k] → Nl.allIn (Nl.of g) (rs.drop (k + 1)) = true → Nl.isAt inn (rs[k] - (g.terms.length : Int)) = true) → Fo.LB g.names.length g.terms.length n g.rules (Nl.of g) inn l i r (k + 1)) := fun a => HSK.out l inn k hkl hS.out a
                  have ILN := hS.out.len
                  rw [hne]
                  clear hne heq
                  obtain ⟨r0, r1, _⟩ := cells_two_z hR1.out
                  have hrz := (Array.getElem?_eq_some_iff.1 hR1.out).1
                  obtain ⟨row, hrow⟩ : ∃ row, rs.drop (k + 1) = row := ⟨_, rfl⟩
                  have hrwl : row.length = rs.length - (k + 1) := by rw [← hrow, List.length_drop]
                  obtain ⟨so, hso⟩ : ∃ so, (if yc = k + 1 then some (⟨xb, xof, none⟩ : Addr) else some ⟨xb, xof + (k + 1), none⟩) = so := ⟨_, rfl⟩
                  have hsl : ∀ W : World, (Instr.slice 29 (.slice (some ⟨xb, xof, none⟩) rs.length yc) (some (.int .i64 ((k : Int) + 1))) none none).run Try.prog W = .ok (.slice so row.length (yc - (k + 1))) W := fun W => by
                    have := slice_tailI xb xof rs.length yc (k + 1) (by omega) W
                    rw [hso, ← hrwl, show ((k + 1 : Nat) : Int) = (k : Int) + 1 from by omega] at this
                    exact this
                  have ROW : Hid (∀ W : World, IntsAt w.heap.size W (some ⟨xb, xof, none⟩) rs → IntsAt w.heap.size W so row) := fun W h q hq => by
                    have hq' : q < row.length := by simpa using hq
                    have hqr : k + 1 + q < rs.length := by omega
                    obtain ⟨b', o', e, h1, h2, h3⟩ := IntsAt.get h (k + 1 + q) hqr
                    simp only [Option.some.injEq, Addr.mk.injEq] at e
                    obtain ⟨rfl, rfl, _⟩ := e
                    have hne : ¬ yc = k + 1 := by omega
                    rw [if_neg hne] at hso
                    refine ⟨_, _, hso.symm, h1, h2, ?_⟩
                    rw [List.getElem_map, show xof + (k + 1) + q = xof + (k + 1 + q) from by omega, h3]
                    congr 2
                    simp only [← hrow, List.getElem_drop]
                  have HRW : Hid (row.length ≤ 4000) := by show _ ≤ _; omega
                  obtain ⟨ya, hya⟩ : ∃ ya, Nl.allIn (Nl.of g) row = ya := ⟨_, rfl⟩
                  have HYA : Hid (Nl.allIn (Nl.of g) row = ya) := hya
                  have HCA : Hid (∀ w1 : World, Lat wq.drew w1 → Calls Try.prog 12 #[.agg #[.slice ta g.terms.length tc, .slice na g.names.length nc, .slice (some ⟨rb, ro, none⟩) g.rules.length rc], .slice so row.length (yc - (k + 1))] w1 fun e w' => e = .returned (.bool ya) ∧ Below w1.heap.size w1 w') := fun w1 hL => by
                    have hb1 := HBQ.out.trans (Below.mono hL.of_drew HBQ.out.size)
                    exact HAL.out w1 row so _ ya hb1 ((ROW.out w1 (KI.out.later hb1)).size) HRW.out HYA.out
                  rw [hrow, hya] at HADk HSKk
                  clear HBq hya hrow hso hrwl hS
                  generalize rs[k] = x at *
                  have hkw : IntKind.wrap .i64 ((k : Int) + 1) = (k : Int) + 1 := by rw [IntKind.wrap_i64]; omega
                  go_upto_region 18 with fail
                  clear x0 r0 r1 hrz
                  have HD : Hid (∀ w1 : World, Lat wq.drew w1 → w1.cell? ⟨w.heap.size, 0, none⟩ = some (.slice ta g.terms.length tc) ∧ w1.cell? ⟨w.heap.size, 1, none⟩ = some (.slice na g.names.length nc) ∧ w1.cell? ⟨w.heap.size, 2, none⟩ = some (.slice (some ⟨rb, ro, none⟩) g.rules.length rc) ∧ w1.cell? ⟨R, 1, none⟩ = some (.slice (some ⟨xb, xof, none⟩) rs.length yc) ∧ ∀ (q : Nat) (hq : q < inn.length), w1.cell? ⟨M, q, none⟩ = some (.bool inn[q])) := fun w1 hL => by
                    obtain ⟨r0, r1, _⟩ := cells_two_z hR1.out
                    exact ⟨cell_later hL.of_drew g0, cell_later hL.of_drew g1, cell_later hL.of_drew g2, cell_later hL.of_drew r1, fun q hq => cell_later hL.of_drew (bools_cell hA1.out q hq).1⟩
                  clear g0 g1 g2 hgz HBQ
                  by_cases hxt : x < (g.terms.length : Int)
                  · have hxi : ¬ (g.terms.length : Int) ≤ x := by omega
                    refine wp_region_lat [.val (.int .i64 x), .val (.int .i64 g.terms.length), .val (.bool false), .val (.bool false), .val undef, .val undef, .val undef, .val undef, .val undef, .val undef, .val undef, .val (.bool false), .val (.bool false), .val undef, .val undef, .val undef, .val undef, .val undef, .val undef, .val undef, .val (.bool false)] [] (by kernel_rfl) (by kernel_rfl) rfl ?kept ?walk
                    case kept => exact trivial
                    case walk =>
                      refine wpFacts_val (by rfl) (fun w1 hL hd K hK => ?_) ?_
                      · go_simp
                        exact hK _ (Lat.refl _)
                      refine wpFacts_norm (by simp only [Act.put, List.setIfInBounds_toArray, List.set_cons_zero, List.set_cons_succ]; rfl) (by simp only [List.nil_append]; rfl) ?_
                      refine wpFacts_val (by rfl) (fun w1 hL hd K hK => ?_) ?_
                      · go_simp
                        exact hK _ (Lat.refl _)
                      refine wpFacts_norm (by simp only [Act.put, List.setIfInBounds_toArray, List.set_cons_zero, List.set_cons_succ]; rfl) (by simp only [List.cons_append, List.nil_append]; rfl) ?_
                      refine wpFacts_val (by rfl) (fun w1 hL hd K hK => ?_) ?_
                      · go_simp
                        exact hK _ (Lat.refl _)
                      refine wpFacts_norm (by simp only [Act.put, List.setIfInBounds_toArray, List.set_cons_zero, List.set_cons_succ]; rfl) (by simp only [List.cons_append, List.nil_append]; rfl) ?_
                      refine wpFacts_val (by rfl) (fun w1 hL hd K hK => ?_) ?_
                      · go_simp
                        exact hK _ (Lat.refl _)
                      refine wpFacts_norm (by simp only [Act.put, List.setIfInBounds_toArray, List.set_cons_zero, List.set_cons_succ]; rfl) (by simp only [List.cons_append, List.nil_append]; rfl) ?_
                      refine wpFacts_skip9 (by rfl) ?_
                      refine wpFacts_norm (by simp only [Act.put, List.setIfInBounds_toArray, List.set_cons_zero, List.set_cons_succ]; rfl) (by simp only [List.cons_append, List.nil_append]; rfl) ?_
                      refine wpFacts_skip9 (by rfl) ?_
                      refine wpFacts_norm (by simp only [Act.put, List.setIfInBounds_toArray, List.set_cons_zero, List.set_cons_succ]; rfl) (by simp only [List.cons_append, List.nil_append]; rfl) ?_
                      refine wpFacts_skip9 (by rfl) ?_
                      refine wpFacts_norm (by simp only [Act.put, List.setIfInBounds_toArray, List.set_cons_zero, List.set_cons_succ]; rfl) (by simp only [List.cons_append, List.nil_append]; rfl) ?_
                      refine wpFacts_skip9 (by rfl) ?_
                      refine wpFacts_norm (by simp only [Act.put, List.setIfInBounds_toArray, List.set_cons_zero, List.set_cons_succ]; rfl) (by simp only [List.cons_append, List.nil_append]; rfl) ?_
                      refine wpFacts_skip9 (by rfl) ?_
                      refine wpFacts_norm (by simp only [Act.put, List.setIfInBounds_toArray, List.set_cons_zero, List.set_cons_succ]; rfl) (by simp only [List.cons_append, List.nil_append]; rfl) ?_
                      refine wpFacts_skip9 (by rfl) ?_
                      refine wpFacts_norm (by simp only [Act.put, List.setIfInBounds_toArray, List.set_cons_zero, List.set_cons_succ]; rfl) (by simp only [List.cons_append, List.nil_append]; rfl) ?_
                      refine wpFacts_skip9 (by rfl) ?_
                      refine wpFacts_norm (by simp only [Act.put, List.setIfInBounds_toArray, List.set_cons_zero, List.set_cons_succ]; rfl) (by simp only [List.cons_append, List.nil_append]; rfl) ?_
                      refine wpFacts_val (by rfl) (fun w1 hL hd K hK => ?_) ?_
                      · go_simp
                        exact hK _ (Lat.refl _)
                      refine wpFacts_norm (by simp only [Act.put, List.setIfInBounds_toArray, List.set_cons_zero, List.set_cons_succ]; rfl) (by simp only [List.cons_append, List.nil_append]; rfl) ?_
                      refine wpFacts_val (by rfl) (fun w1 hL hd K hK => ?_) ?_
                      · go_simp
                        exact hK _ (Lat.refl _)
                      refine wpFacts_norm (by simp only [Act.put, List.setIfInBounds_toArray, List.set_cons_zero, List.set_cons_succ]; rfl) (by simp only [List.cons_append, List.nil_append]; rfl) ?_
                      refine wpFacts_skip9 (by rfl) ?_
                      refine wpFacts_norm (by simp only [Act.put, List.setIfInBounds_toArray, List.set_cons_zero, List.set_cons_succ]; rfl) (by simp only [List.cons_append, List.nil_append]; rfl) ?_
                      refine wpFacts_skip9 (by rfl) ?_
                      refine wpFacts_norm (by simp only [Act.put, List.setIfInBounds_toArray, List.set_cons_zero, List.set_cons_succ]; rfl) (by simp only [List.cons_append, List.nil_append]; rfl) ?_
                      refine wpFacts_skip9 (by rfl) ?_
                      refine wpFacts_norm (by simp only [Act.put, List.setIfInBounds_toArray, List.set_cons_zero, List.set_cons_succ]; rfl) (by simp only [List.cons_append, List.nil_append]; rfl) ?_
                      refine wpFacts_skip9 (by rfl) ?_
                      refine wpFacts_norm (by simp only [Act.put, List.setIfInBounds_toArray, List.set_cons_zero, List.set_cons_succ]; rfl) (by simp only [List.cons_append, List.nil_append]; rfl) ?_
                      refine wpFacts_skip9 (by rfl) ?_
                      refine wpFacts_norm (by simp only [Act.put, List.setIfInBounds_toArray, List.set_cons_zero, List.set_cons_succ]; rfl) (by simp only [List.cons_append, List.nil_append]; rfl) ?_
                      refine wpFacts_skip9 (by rfl) ?_
                      refine wpFacts_norm (by simp only [Act.put, List.setIfInBounds_toArray, List.set_cons_zero, List.set_cons_succ]; rfl) (by simp only [List.cons_append, List.nil_append]; rfl) ?_
                      refine wpFacts_skip9 (by rfl) ?_
                      refine wpFacts_norm (by simp only [Act.put, List.setIfInBounds_toArray, List.set_cons_zero, List.set_cons_succ]; rfl) (by simp only [List.cons_append, List.nil_append]; rfl) ?_
                      refine wpFacts_val (by rfl) (fun w1 hL hd K hK => ?_) ?_
                      · go_simp
                        exact hK _ (Lat.refl _)
                      refine wpFacts_norm (by simp only [Act.put, List.setIfInBounds_toArray, List.set_cons_zero, List.set_cons_succ]; rfl) (by simp only [List.cons_append, List.nil_append]; rfl) ?_
                      intro wz hLz haz
                      have hLd : Hid (Below wq.heap.size wq wz) := hLz.of_drew
                      have hB2 : Hid (Below M w5 wz) := hB1.out.trans (hLd.out.mono (HMZ.out _ hB1.out))
                      have hA2 : Hid (wz.heap[M]? = some (.cells (inn.map Value.bool).toArray 4 (0, 0))) := (hLd.out.block _ (Array.getElem?_eq_some_iff.1 hA1.out).1).trans hA1.out
                      have hR2 : Hid (wz.heap[R]? = some (.cells #[.int .i64 lf, .slice (some ⟨xb, xof, none⟩) rs.length yc] 31 (0, 0))) := (hLd.out.block _ (Array.getElem?_eq_some_iff.1 hR1.out).1).trans hR1.out
                      have hO2 : Hid (OwnInts M wz (.slice (some ⟨lb, lof, none⟩) l.length lc) l) := ownsRow_below hO1.out hLd.out
                      clear hLz haz hLd hB1 hA1 hO1 hR1 HD
                      have N2 : Hid _ := HSKk.out (fun a => absurd a hxi)
                      clear HADk HSKk
                      go_wp2_with fail
                      go_roundw
                      case rel => exact ⟨k + 1, l, inn, _, lc, by omega, rfl, by go_num, hil, hB2, hA2, hO2, hR2, N2⟩
                      case measure => simp [intOf]; omega
                  · have hxi : (g.terms.length : Int) ≤ x := by omega
                    obtain ⟨xm, hxm⟩ : ∃ xm : Nat, x - (g.terms.length : Int) = xm := ⟨(x - (g.terms.length : Int)).toNat, by omega⟩
                    have hxN : xm < g.names.length := by omega
                    have hxI : (xm : Int) < (g.names.length : Int) := by omega
                    have hwx : IntKind.wrap .i64 (x - (g.terms.length : Int)) = (xm : Int) := by rw [hxm, IntKind.wrap_i64]; omega
                    have hwm : IntKind.wrap .i64 (xm : Int) = (xm : Int) := by rw [IntKind.wrap_i64]; omega
                    have hml : xm < inn.length := by omega
                    have e9 : Nl.isAt inn (xm : Int) = inn[xm]'hml := by rw [Nl.isAt_get (by omega) (by simp; omega)]; simp
                    have HD2 : Hid _ := HD
                    replace HD : Hid (∀ w1 : World, Lat wq.drew w1 → w1.cell? ⟨w.heap.size, 0, none⟩ = some (.slice ta g.terms.length tc) ∧ w1.cell? ⟨w.heap.size, 1, none⟩ = some (.slice na g.names.length nc) ∧ w1.cell? ⟨w.heap.size, 2, none⟩ = some (.slice (some ⟨rb, ro, none⟩) g.rules.length rc) ∧ w1.cell? ⟨R, 1, none⟩ = some (.slice (some ⟨xb, xof, none⟩) rs.length yc) ∧ w1.cell? ⟨M, xm, none⟩ = some (.bool (inn[xm]'hml))) := fun w1 hL => by
                      obtain ⟨a, b, c, d, e⟩ := HD2.out w1 hL
                      exact ⟨a, b, c, d, e xm hml⟩
                    rw [hxm, e9] at HADk HSKk
                    have f9 := (bools_cell hA1.out xm hml).2
                    clear e9 HD2
                    have AP : Hid (∀ W : World, W.heap[M]? = some (.cells (inn.map Value.bool).toArray 4 (0, 0)) → (W.setCell ⟨M, xm, none⟩ (.bool true)).heap[M]? = some (.cells ((Nl.tell inn (xm : Int)).map Value.bool).toArray 4 (0, 0))) := fun W hW => by
                      have := bools_set hW xm true
                      simpa [Nl.tell] using this
                    have CZ : Hid (∀ W : World, W.heap[M]? = some (.cells (inn.map Value.bool).toArray 4 (0, 0)) → W.cell? ⟨M, xm, none⟩ = some (.bool (inn[xm]'hml)) ∧ W.frozen? ⟨M, xm, none⟩ = false) := fun W hW => bools_cell hW xm hml
                    generalize inn[xm]'hml = z at *
                    cases z
                    · cases ya
                      · refine wp_region_lat [.val (.int .i64 x), .val (.int .i64 g.terms.length), .val (.bool true), .val (.bool true), .val (.slice (some ⟨M, 0, none⟩) g.names.length g.names.length), .val (.int .i64 x), .val (.int .i64 g.terms.length), .val (.int .i64 (xm : Int)), .val (.pointer (some ⟨M, xm, none⟩)), .val (.bool false), .val (.bool true), .val (.bool true), .val (.bool true), .val (.agg #[.slice ta g.terms.length tc, .slice na g.names.length nc, .slice (some ⟨rb, ro, none⟩) g.rules.length rc]), .val (.pointer (some ⟨R, 1, none⟩)), .val (.slice (some ⟨xb, xof, none⟩) rs.length yc), .val (.int .i64 k), .val (.int .i64 ((k : Int) + 1)), .val (.slice so row.length (yc - (k + 1))), .val (.bool false), .val (.bool false)] [] (by kernel_rfl) (by kernel_rfl) rfl ?kept ?walk
                        case kept => exact trivial
                        case walk =>
                          refine wpFacts_val (by rfl) (fun w1 hL hd K hK => ?_) ?_
                          · go_simp
                            exact hK _ (Lat.refl _)
                          refine wpFacts_norm (by simp only [Act.put, List.setIfInBounds_toArray, List.set_cons_zero, List.set_cons_succ]; rfl) (by simp only [List.nil_append]; rfl) ?_
                          refine wpFacts_val (by rfl) (fun w1 hL hd K hK => ?_) ?_
                          · go_simp
                            exact hK _ (Lat.refl _)
                          refine wpFacts_norm (by simp only [Act.put, List.setIfInBounds_toArray, List.set_cons_zero, List.set_cons_succ]; rfl) (by simp only [List.cons_append, List.nil_append]; rfl) ?_
                          refine wpFacts_val (by rfl) (fun w1 hL hd K hK => ?_) ?_
                          · go_simp
                            exact hK _ (Lat.refl _)
                          refine wpFacts_norm (by simp only [Act.put, List.setIfInBounds_toArray, List.set_cons_zero, List.set_cons_succ]; rfl) (by simp only [List.cons_append, List.nil_append]; rfl) ?_
                          refine wpFacts_val (by rfl) (fun w1 hL hd K hK => ?_) ?_
                          · go_simp
                            exact hK _ (Lat.refl _)
                          refine wpFacts_norm (by simp only [Act.put, List.setIfInBounds_toArray, List.set_cons_zero, List.set_cons_succ]; rfl) (by simp only [List.cons_append, List.nil_append]; rfl) ?_
                          refine wpFacts_val (by rfl) (fun w1 hL hd K hK => ?_) ?_
                          · go_simp
                            exact hK _ (Lat.refl _)
                          refine wpFacts_norm (by simp only [Act.put, List.setIfInBounds_toArray, List.set_cons_zero, List.set_cons_succ]; rfl) (by simp only [List.cons_append, List.nil_append]; rfl) ?_
                          refine wpFacts_val (by rfl) (fun w1 hL hd K hK => ?_) ?_
                          · go_simp
                            exact hK _ (Lat.refl _)
                          refine wpFacts_norm (by simp only [Act.put, List.setIfInBounds_toArray, List.set_cons_zero, List.set_cons_succ]; rfl) (by simp only [List.cons_append, List.nil_append]; rfl) ?_
                          refine wpFacts_val (by rfl) (fun w1 hL hd K hK => ?_) ?_
                          · go_simp
                            exact hK _ (Lat.refl _)
                          refine wpFacts_norm (by simp only [Act.put, List.setIfInBounds_toArray, List.set_cons_zero, List.set_cons_succ]; rfl) (by simp only [List.cons_append, List.nil_append]; rfl) ?_
                          refine wpFacts_val (by rfl) (fun w1 hL hd K hK => ?_) ?_
                          · go_simp
                            exact hK _ (Lat.refl _)
                          refine wpFacts_norm (by simp only [Act.put, List.setIfInBounds_toArray, List.set_cons_zero, List.set_cons_succ]; rfl) (by simp only [List.cons_append, List.nil_append]; rfl) ?_
                          refine wpFacts_val (by rfl) (fun w1 hL hd K hK => ?_) ?_
                          · go_simp
                            exact hK _ (Lat.refl _)
                          refine wpFacts_norm (by simp only [Act.put, List.setIfInBounds_toArray, List.set_cons_zero, List.set_cons_succ]; rfl) (by simp only [List.cons_append, List.nil_append]; rfl) ?_
                          refine wpFacts_val (by rfl) (fun w1 hL hd K hK => ?_) ?_
                          · have d9 := (HD.out w1 hL).2.2.2.2
                            go_simp
                            exact hK _ (Lat.refl _)
                          refine wpFacts_norm (by simp only [Act.put, List.setIfInBounds_toArray, List.set_cons_zero, List.set_cons_succ]; rfl) (by simp only [List.cons_append, List.nil_append]; rfl) ?_
                          refine wpFacts_val (by rfl) (fun w1 hL hd K hK => ?_) ?_
                          · go_simp
                            exact hK _ (Lat.refl _)
                          refine wpFacts_norm (by simp only [Act.put, List.setIfInBounds_toArray, List.set_cons_zero, List.set_cons_succ]; rfl) (by simp only [List.cons_append, List.nil_append]; rfl) ?_
                          refine wpFacts_val (by rfl) (fun w1 hL hd K hK => ?_) ?_
                          · go_simp
                            exact hK _ (Lat.refl _)
                          refine wpFacts_norm (by simp only [Act.put, List.setIfInBounds_toArray, List.set_cons_zero, List.set_cons_succ]; rfl) (by simp only [List.cons_append, List.nil_append]; rfl) ?_
                          refine wpFacts_val (by rfl) (fun w1 hL hd K hK => ?_) ?_
                          · go_simp
                            exact hK _ (Lat.refl _)
                          refine wpFacts_norm (by simp only [Act.put, List.setIfInBounds_toArray, List.set_cons_zero, List.set_cons_succ]; rfl) (by simp only [List.cons_append, List.nil_append]; rfl) ?_
                          refine wpFacts_val (by rfl) (fun w1 hL hd K hK => ?_) ?_
                          · obtain ⟨d0, d1, d2, d3, d4⟩ := HD.out w1 hL
                            go_simp
                            exact hK _ (Lat.refl _)
                          refine wpFacts_norm (by simp only [Act.put, List.setIfInBounds_toArray, List.set_cons_zero, List.set_cons_succ]; rfl) (by simp only [List.cons_append, List.nil_append]; rfl) ?_
                          refine wpFacts_val (by rfl) (fun w1 hL hd K hK => ?_) ?_
                          · go_simp
                            exact hK _ (Lat.refl _)
                          refine wpFacts_norm (by simp only [Act.put, List.setIfInBounds_toArray, List.set_cons_zero, List.set_cons_succ]; rfl) (by simp only [List.cons_append, List.nil_append]; rfl) ?_
                          refine wpFacts_val (by rfl) (fun w1 hL hd K hK => ?_) ?_
                          · obtain ⟨d0, d1, d2, d3, d4⟩ := HD.out w1 hL
                            go_simp
                            exact hK _ (Lat.refl _)
                          refine wpFacts_norm (by simp only [Act.put, List.setIfInBounds_toArray, List.set_cons_zero, List.set_cons_succ]; rfl) (by simp only [List.cons_append, List.nil_append]; rfl) ?_
                          refine wpFacts_val (by rfl) (fun w1 hL hd K hK => ?_) ?_
                          · go_simp
                            exact hK _ (Lat.refl _)
                          refine wpFacts_norm (by simp only [Act.put, List.setIfInBounds_toArray, List.set_cons_zero, List.set_cons_succ]; rfl) (by simp only [List.cons_append, List.nil_append]; rfl) ?_
                          refine wpFacts_val (by rfl) (fun w1 hL hd K hK => ?_) ?_
                          · go_simp
                            exact hK _ (Lat.refl _)
                          refine wpFacts_norm (by simp only [Act.put, List.setIfInBounds_toArray, List.set_cons_zero, List.set_cons_succ]; rfl) (by simp only [List.cons_append, List.nil_append]; rfl) ?_
                          refine wpFacts_val (by rfl) (fun w1 hL hd K hK => ?_) ?_
                          · go_simp
                            exact hK _ (Lat.refl _)
                          refine wpFacts_norm (by simp only [Act.put, List.setIfInBounds_toArray, List.set_cons_zero, List.set_cons_succ]; rfl) (by simp only [List.cons_append, List.nil_append]; rfl) ?_
                          refine wpFacts_val (by rfl) (fun w1 hL hd K hK => ?_) ?_
                          · go_simp
                            refine Calls.mono (HCA.out w1 hL) ?_
                            rintro e w9 ⟨rfl, hb9⟩
                            exact hK _ hb9
                          refine wpFacts_norm (by simp only [Act.put, List.setIfInBounds_toArray, List.set_cons_zero, List.set_cons_succ]; rfl) (by simp only [List.cons_append, List.nil_append]; rfl) ?_
                          refine wpFacts_val (by rfl) (fun w1 hL hd K hK => ?_) ?_
                          · go_simp
                            exact hK _ (Lat.refl _)
                          refine wpFacts_norm (by simp only [Act.put, List.setIfInBounds_toArray, List.set_cons_zero, List.set_cons_succ]; rfl) (by simp only [List.cons_append, List.nil_append]; rfl) ?_
                          intro wz hLz haz
                          have hLd : Hid (Below wq.heap.size wq wz) := hLz.of_drew
                          have hB2 : Hid (Below M w5 wz) := hB1.out.trans (hLd.out.mono (HMZ.out _ hB1.out))
                          have hA2 : Hid (wz.heap[M]? = some (.cells (inn.map Value.bool).toArray 4 (0, 0))) := (hLd.out.block _ (Array.getElem?_eq_some_iff.1 hA1.out).1).trans hA1.out
                          have hR2 : Hid (wz.heap[R]? = some (.cells #[.int .i64 lf, .slice (some ⟨xb, xof, none⟩) rs.length yc] 31 (0, 0))) := (hLd.out.block _ (Array.getElem?_eq_some_iff.1 hR1.out).1).trans hR1.out
                          have hO2 : Hid (OwnInts M wz (.slice (some ⟨lb, lof, none⟩) l.length lc) l) := ownsRow_below hO1.out hLd.out
                          clear hLz haz hLd hB1 hA1 hO1 hR1 HD
                          have N2 : Hid _ := HSKk.out (fun _ b => by cases b)
                          clear HADk HSKk AP CZ
                          go_wp2_with fail
                          go_roundw
                          case rel => exact ⟨k + 1, l, inn, _, lc, by omega, rfl, by go_num, hil, hB2, hA2, hO2, hR2, N2⟩
                          case measure => simp [intOf]; omega
                      · refine wp_region_lat [.val (.int .i64 x), .val (.int .i64 g.terms.length), .val (.bool true), .val (.bool true), .val (.slice (some ⟨M, 0, none⟩) g.names.length g.names.length), .val (.int .i64 x), .val (.int .i64 g.terms.length), .val (.int .i64 (xm : Int)), .val (.pointer (some ⟨M, xm, none⟩)), .val (.bool false), .val (.bool true), .val (.bool true), .val (.bool true), .val (.agg #[.slice ta g.terms.length tc, .slice na g.names.length nc, .slice (some ⟨rb, ro, none⟩) g.rules.length rc]), .val (.pointer (some ⟨R, 1, none⟩)), .val (.slice (some ⟨xb, xof, none⟩) rs.length yc), .val (.int .i64 k), .val (.int .i64 ((k : Int) + 1)), .val (.slice so row.length (yc - (k + 1))), .val (.bool true), .val (.bool true)] [] (by kernel_rfl) (by kernel_rfl) rfl ?kept ?walk
                        case kept => exact trivial
                        case walk =>
                          refine wpFacts_val (by rfl) (fun w1 hL hd K hK => ?_) ?_
                          · go_simp
                            exact hK _ (Lat.refl _)
                          refine wpFacts_norm (by simp only [Act.put, List.setIfInBounds_toArray, List.set_cons_zero, List.set_cons_succ]; rfl) (by simp only [List.nil_append]; rfl) ?_
                          refine wpFacts_val (by rfl) (fun w1 hL hd K hK => ?_) ?_
                          · go_simp
                            exact hK _ (Lat.refl _)
                          refine wpFacts_norm (by simp only [Act.put, List.setIfInBounds_toArray, List.set_cons_zero, List.set_cons_succ]; rfl) (by simp only [List.cons_append, List.nil_append]; rfl) ?_
                          refine wpFacts_val (by rfl) (fun w1 hL hd K hK => ?_) ?_
                          · go_simp
                            exact hK _ (Lat.refl _)
                          refine wpFacts_norm (by simp only [Act.put, List.setIfInBounds_toArray, List.set_cons_zero, List.set_cons_succ]; rfl) (by simp only [List.cons_append, List.nil_append]; rfl) ?_
                          refine wpFacts_val (by rfl) (fun w1 hL hd K hK => ?_) ?_
                          · go_simp
                            exact hK _ (Lat.refl _)
                          refine wpFacts_norm (by simp only [Act.put, List.setIfInBounds_toArray, List.set_cons_zero, List.set_cons_succ]; rfl) (by simp only [List.cons_append, List.nil_append]; rfl) ?_
                          refine wpFacts_val (by rfl) (fun w1 hL hd K hK => ?_) ?_
                          · go_simp
                            exact hK _ (Lat.refl _)
                          refine wpFacts_norm (by simp only [Act.put, List.setIfInBounds_toArray, List.set_cons_zero, List.set_cons_succ]; rfl) (by simp only [List.cons_append, List.nil_append]; rfl) ?_
                          refine wpFacts_val (by rfl) (fun w1 hL hd K hK => ?_) ?_
                          · go_simp
                            exact hK _ (Lat.refl _)
                          refine wpFacts_norm (by simp only [Act.put, List.setIfInBounds_toArray, List.set_cons_zero, List.set_cons_succ]; rfl) (by simp only [List.cons_append, List.nil_append]; rfl) ?_
                          refine wpFacts_val (by rfl) (fun w1 hL hd K hK => ?_) ?_
                          · go_simp
                            exact hK _ (Lat.refl _)
                          refine wpFacts_norm (by simp only [Act.put, List.setIfInBounds_toArray, List.set_cons_zero, List.set_cons_succ]; rfl) (by simp only [List.cons_append, List.nil_append]; rfl) ?_
                          refine wpFacts_val (by rfl) (fun w1 hL hd K hK => ?_) ?_
                          · go_simp
                            exact hK _ (Lat.refl _)
                          refine wpFacts_norm (by simp only [Act.put, List.setIfInBounds_toArray, List.set_cons_zero, List.set_cons_succ]; rfl) (by simp only [List.cons_append, List.nil_append]; rfl) ?_
                          refine wpFacts_val (by rfl) (fun w1 hL hd K hK => ?_) ?_
                          · go_simp
                            exact hK _ (Lat.refl _)
                          refine wpFacts_norm (by simp only [Act.put, List.setIfInBounds_toArray, List.set_cons_zero, List.set_cons_succ]; rfl) (by simp only [List.cons_append, List.nil_append]; rfl) ?_
                          refine wpFacts_val (by rfl) (fun w1 hL hd K hK => ?_) ?_
                          · have d9 := (HD.out w1 hL).2.2.2.2
                            go_simp
                            exact hK _ (Lat.refl _)
                          refine wpFacts_norm (by simp only [Act.put, List.setIfInBounds_toArray, List.set_cons_zero, List.set_cons_succ]; rfl) (by simp only [List.cons_append, List.nil_append]; rfl) ?_
                          refine wpFacts_val (by rfl) (fun w1 hL hd K hK => ?_) ?_
                          · go_simp
                            exact hK _ (Lat.refl _)
                          refine wpFacts_norm (by simp only [Act.put, List.setIfInBounds_toArray, List.set_cons_zero, List.set_cons_succ]; rfl) (by simp only [List.cons_append, List.nil_append]; rfl) ?_
                          refine wpFacts_val (by rfl) (fun w1 hL hd K hK => ?_) ?_
                          · go_simp
                            exact hK _ (Lat.refl _)
                          refine wpFacts_norm (by simp only [Act.put, List.setIfInBounds_toArray, List.set_cons_zero, List.set_cons_succ]; rfl) (by simp only [List.cons_append, List.nil_append]; rfl) ?_
                          refine wpFacts_val (by rfl) (fun w1 hL hd K hK => ?_) ?_
                          · go_simp
                            exact hK _ (Lat.refl _)
                          refine wpFacts_norm (by simp only [Act.put, List.setIfInBounds_toArray, List.set_cons_zero, List.set_cons_succ]; rfl) (by simp only [List.cons_append, List.nil_append]; rfl) ?_
                          refine wpFacts_val (by rfl) (fun w1 hL hd K hK => ?_) ?_
                          · obtain ⟨d0, d1, d2, d3, d4⟩ := HD.out w1 hL
                            go_simp
                            exact hK _ (Lat.refl _)
                          refine wpFacts_norm (by simp only [Act.put, List.setIfInBounds_toArray, List.set_cons_zero, List.set_cons_succ]; rfl) (by simp only [List.cons_append, List.nil_append]; rfl) ?_
                          refine wpFacts_val (by rfl) (fun w1 hL hd K hK => ?_) ?_
                          · go_simp
                            exact hK _ (Lat.refl _)
                          refine wpFacts_norm (by simp only [Act.put, List.setIfInBounds_toArray, List.set_cons_zero, List.set_cons_succ]; rfl) (by simp only [List.cons_append, List.nil_append]; rfl) ?_
                          refine wpFacts_val (by rfl) (fun w1 hL hd K hK => ?_) ?_
                          · obtain ⟨d0, d1, d2, d3, d4⟩ := HD.out w1 hL
                            go_simp
                            exact hK _ (Lat.refl _)
                          refine wpFacts_norm (by simp only [Act.put, List.setIfInBounds_toArray, List.set_cons_zero, List.set_cons_succ]; rfl) (by simp only [List.cons_append, List.nil_append]; rfl) ?_
                          refine wpFacts_val (by rfl) (fun w1 hL hd K hK => ?_) ?_
                          · go_simp
                            exact hK _ (Lat.refl _)
                          refine wpFacts_norm (by simp only [Act.put, List.setIfInBounds_toArray, List.set_cons_zero, List.set_cons_succ]; rfl) (by simp only [List.cons_append, List.nil_append]; rfl) ?_
                          refine wpFacts_val (by rfl) (fun w1 hL hd K hK => ?_) ?_
                          · go_simp
                            exact hK _ (Lat.refl _)
                          refine wpFacts_norm (by simp only [Act.put, List.setIfInBounds_toArray, List.set_cons_zero, List.set_cons_succ]; rfl) (by simp only [List.cons_append, List.nil_append]; rfl) ?_
                          refine wpFacts_val (by rfl) (fun w1 hL hd K hK => ?_) ?_
                          · go_simp
                            exact hK _ (Lat.refl _)
                          refine wpFacts_norm (by simp only [Act.put, List.setIfInBounds_toArray, List.set_cons_zero, List.set_cons_succ]; rfl) (by simp only [List.cons_append, List.nil_append]; rfl) ?_
                          refine wpFacts_val (by rfl) (fun w1 hL hd K hK => ?_) ?_
                          · go_simp
                            refine Calls.mono (HCA.out w1 hL) ?_
                            rintro e w9 ⟨rfl, hb9⟩
                            exact hK _ hb9
                          refine wpFacts_norm (by simp only [Act.put, List.setIfInBounds_toArray, List.set_cons_zero, List.set_cons_succ]; rfl) (by simp only [List.cons_append, List.nil_append]; rfl) ?_
                          refine wpFacts_val (by rfl) (fun w1 hL hd K hK => ?_) ?_
                          · go_simp
                            exact hK _ (Lat.refl _)
                          refine wpFacts_norm (by simp only [Act.put, List.setIfInBounds_toArray, List.set_cons_zero, List.set_cons_succ]; rfl) (by simp only [List.cons_append, List.nil_append]; rfl) ?_
                          intro wz hLz haz
                          have hLd : Hid (Below wq.heap.size wq wz) := hLz.of_drew
                          have hB2 : Hid (Below M w5 wz) := hB1.out.trans (hLd.out.mono (HMZ.out _ hB1.out))
                          have hA2 : Hid (wz.heap[M]? = some (.cells (inn.map Value.bool).toArray 4 (0, 0))) := (hLd.out.block _ (Array.getElem?_eq_some_iff.1 hA1.out).1).trans hA1.out
                          have hR2 : Hid (wz.heap[R]? = some (.cells #[.int .i64 lf, .slice (some ⟨xb, xof, none⟩) rs.length yc] 31 (0, 0))) := (hLd.out.block _ (Array.getElem?_eq_some_iff.1 hR1.out).1).trans hR1.out
                          have hO2 : Hid (OwnInts M wz (.slice (some ⟨lb, lof, none⟩) l.length lc) l) := ownsRow_below hO1.out hLd.out
                          clear hLz haz hLd hB1 hA1 hO1 hR1 HD
                          have S2 : Hid _ := HADk.out hxi rfl hxI rfl
                          obtain ⟨c0, f0⟩ := CZ.out wz hA2.out
                          have hMl := (Array.getElem?_eq_some_iff.1 hA2.out).1
                          have AP2 : Hid _ := AP.out wz hA2.out
                          have hRne : R ≠ M := by omega
                          have hO3 : Hid (OwnInts M (wz.setCell ⟨M, xm, none⟩ (.bool true)) (.slice (some ⟨lb, lof, none⟩) l.length lc) l) := ownsRow_setCell_other hO2.out (ownsRow_ne hO2.out hA2.out (by decide)) _
                          have hB3 : Hid (Below M w5 (wz.setCell ⟨M, xm, none⟩ (.bool true))) := hB2.out.setCell (Nat.le_refl _) _
                          have hR3 : Hid ((wz.setCell ⟨M, xm, none⟩ (.bool true)).heap[R]? = some (.cells #[.int .i64 lf, .slice (some ⟨xb, xof, none⟩) rs.length yc] 31 (0, 0))) := (Below.heap_setCell _ _ _ _ hRne).trans hR2.out
                          clear HADk HSKk AP CZ hO2 hB2 hA2 hR2
                          go_upto_region 20 with fail
                          generalize (wz.setCell ⟨M, xm, none⟩ (.bool true)) = Wn at *
                          clear c0 f0 hMl
                          have hb3 : Hid (Below Wn.heap.size Wn (Wn.alloc (Obj.cells #[.int .i64 x] 3))) := (Below.refl _ Wn).alloc (Nat.le_refl _) _
                          have hO4 : Hid (OwnInts M (Wn.alloc (Obj.cells #[.int .i64 x] 3)) (.slice (some ⟨lb, lof, none⟩) l.length lc) l) := ownsRow_below hO3.out hb3.out
                          have hA4 : Hid ((Wn.alloc (Obj.cells #[.int .i64 x] 3)).heap[M]? = some (.cells ((Nl.tell inn (xm : Int)).map Value.bool).toArray 4 (0, 0))) := (hb3.out.block _ (Array.getElem?_eq_some_iff.1 AP2.out).1).trans AP2.out
                          have hR4 : Hid ((Wn.alloc (Obj.cells #[.int .i64 x] 3)).heap[R]? = some (.cells #[.int .i64 lf, .slice (some ⟨xb, xof, none⟩) rs.length yc] 31 (0, 0))) := (hb3.out.block _ (Array.getElem?_eq_some_iff.1 hR3.out).1).trans hR3.out
                          have hB4 : Hid (Below M w5 (Wn.alloc (Obj.cells #[.int .i64 x] 3))) := hB3.out.trans (hb3.out.mono (HMZ.out _ hB3.out))
                          have hMs : M ≤ (Wn.alloc (Obj.cells #[.int .i64 x] 3)).heap.size := by have := (Array.getElem?_eq_some_iff.1 hA4.out).1; omega
                          go_upto_region 16 with (at_builtin; refine wpList_append_oint rfl _ _ rfl M _ l rfl hO4.out Wn.heap.size 1 x rfl (by simp [go_sem]) (by omega) hMs ?_; intro ga cap w4 ho4 hg4)
                          have hO5 : Hid (OwnInts M w4 (.slice (some ⟨ga, 0, none⟩) (l ++ [x]).length cap) (l ++ [x])) := by
                            show OwnInts _ _ _ _
                            rw [List.length_append]; exact ho4
                          have hB5 : Hid (Below M w5 w4) := hB4.out.grown hg4 hMs (fun q hq => (hO4.out.lt q hq).1)
                          have hA5 : Hid (w4.heap[M]? = some (.cells ((Nl.tell inn (xm : Int)).map Value.bool).toArray 4 (0, 0))) := (hg4.block M (Array.getElem?_eq_some_iff.1 hA4.out).1 (fun q => ownsRow_ne hO4.out hA4.out (by decide) q.symm)).trans hA4.out
                          have hR5 : Hid (w4.heap[R]? = some (.cells #[.int .i64 lf, .slice (some ⟨xb, xof, none⟩) rs.length yc] 31 (0, 0))) := (hg4.block R (Array.getElem?_eq_some_iff.1 hR4.out).1 (fun q => ownsRow_ne hO4.out hR4.out (by decide) q.symm)).trans hR4.out
                          have hil3 : i < (l ++ [x]).length := by rw [List.length_append]; omega
                          clear hO4 hA4 hB4 hR4 hO3 hB3 hR3 AP2 ho4 hg4 hb3 hMs
                          go_wp2_with fail
                          go_roundw
                          case rel => exact ⟨k + 1, l ++ [x], _, some ⟨ga, 0, none⟩, cap, by omega, by first | rfl | simp, by go_num, hil3, hB5, hA5, by first | exact hO5 | simpa using hO5, hR5, S2⟩
                          case measure => simp [intOf]; omega
                    · refine wp_region_lat [.val (.int .i64 x), .val (.int .i64 g.terms.length), .val (.bool true), .val (.bool true), .val (.slice (some ⟨M, 0, none⟩) g.names.length g.names.length), .val (.int .i64 x), .val (.int .i64 g.terms.length), .val (.int .i64 (xm : Int)), .val (.pointer (some ⟨M, xm, none⟩)), .val (.bool true), .val (.bool false), .val (.bool false), .val (.bool false), .val undef, .val undef, .val undef, .val undef, .val undef, .val undef, .val undef, .val (.bool false)] [] (by kernel_rfl) (by kernel_rfl) rfl ?kept ?walk
                      case kept => exact trivial
                      case walk =>
                        refine wpFacts_val (by rfl) (fun w1 hL hd K hK => ?_) ?_
                        · go_simp
                          exact hK _ (Lat.refl _)
                        refine wpFacts_norm (by simp only [Act.put, List.setIfInBounds_toArray, List.set_cons_zero, List.set_cons_succ]; rfl) (by simp only [List.nil_append]; rfl) ?_
                        refine wpFacts_val (by rfl) (fun w1 hL hd K hK => ?_) ?_
                        · go_simp
                          exact hK _ (Lat.refl _)
                        refine wpFacts_norm (by simp only [Act.put, List.setIfInBounds_toArray, List.set_cons_zero, List.set_cons_succ]; rfl) (by simp only [List.cons_append, List.nil_append]; rfl) ?_
                        refine wpFacts_val (by rfl) (fun w1 hL hd K hK => ?_) ?_
                        · go_simp
                          exact hK _ (Lat.refl _)
                        refine wpFacts_norm (by simp only [Act.put, List.setIfInBounds_toArray, List.set_cons_zero, List.set_cons_succ]; rfl) (by simp only [List.cons_append, List.nil_append]; rfl) ?_
                        refine wpFacts_val (by rfl) (fun w1 hL hd K hK => ?_) ?_
                        · go_simp
                          exact hK _ (Lat.refl _)
                        refine wpFacts_norm (by simp only [Act.put, List.setIfInBounds_toArray, List.set_cons_zero, List.set_cons_succ]; rfl) (by simp only [List.cons_append, List.nil_append]; rfl) ?_
                        refine wpFacts_val (by rfl) (fun w1 hL hd K hK => ?_) ?_
                        · go_simp
                          exact hK _ (Lat.refl _)
                        refine wpFacts_norm (by simp only [Act.put, List.setIfInBounds_toArray, List.set_cons_zero, List.set_cons_succ]; rfl) (by simp only [List.cons_append, List.nil_append]; rfl) ?_
                        refine wpFacts_val (by rfl) (fun w1 hL hd K hK => ?_) ?_
                        · go_simp
                          exact hK _ (Lat.refl _)
                        refine wpFacts_norm (by simp only [Act.put, List.setIfInBounds_toArray, List.set_cons_zero, List.set_cons_succ]; rfl) (by simp only [List.cons_append, List.nil_append]; rfl) ?_
                        refine wpFacts_val (by rfl) (fun w1 hL hd K hK => ?_) ?_
                        · go_simp
                          exact hK _ (Lat.refl _)
                        refine wpFacts_norm (by simp only [Act.put, List.setIfInBounds_toArray, List.set_cons_zero, List.set_cons_succ]; rfl) (by simp only [List.cons_append, List.nil_append]; rfl) ?_
                        refine wpFacts_val (by rfl) (fun w1 hL hd K hK => ?_) ?_
                        · go_simp
                          exact hK _ (Lat.refl _)
                        refine wpFacts_norm (by simp only [Act.put, List.setIfInBounds_toArray, List.set_cons_zero, List.set_cons_succ]; rfl) (by simp only [List.cons_append, List.nil_append]; rfl) ?_
                        refine wpFacts_val (by rfl) (fun w1 hL hd K hK => ?_) ?_
                        · go_simp
                          exact hK _ (Lat.refl _)
                        refine wpFacts_norm (by simp only [Act.put, List.setIfInBounds_toArray, List.set_cons_zero, List.set_cons_succ]; rfl) (by simp only [List.cons_append, List.nil_append]; rfl) ?_
                        refine wpFacts_val (by rfl) (fun w1 hL hd K hK => ?_) ?_
                        · have d9 := (HD.out w1 hL).2.2.2.2
                          go_simp
                          exact hK _ (Lat.refl _)
                        refine wpFacts_norm (by simp only [Act.put, List.setIfInBounds_toArray, List.set_cons_zero, List.set_cons_succ]; rfl) (by simp only [List.cons_append, List.nil_append]; rfl) ?_
                        refine wpFacts_val (by rfl) (fun w1 hL hd K hK => ?_) ?_
                        · go_simp
                          exact hK _ (Lat.refl _)
                        refine wpFacts_norm (by simp only [Act.put, List.setIfInBounds_toArray, List.set_cons_zero, List.set_cons_succ]; rfl) (by simp only [List.cons_append, List.nil_append]; rfl) ?_
                        refine wpFacts_val (by rfl) (fun w1 hL hd K hK => ?_) ?_
                        · go_simp
                          exact hK _ (Lat.refl _)
                        refine wpFacts_norm (by simp only [Act.put, List.setIfInBounds_toArray, List.set_cons_zero, List.set_cons_succ]; rfl) (by simp only [List.cons_append, List.nil_append]; rfl) ?_
                        refine wpFacts_val (by rfl) (fun w1 hL hd K hK => ?_) ?_
                        · go_simp
                          exact hK _ (Lat.refl _)
                        refine wpFacts_norm (by simp only [Act.put, List.setIfInBounds_toArray, List.set_cons_zero, List.set_cons_succ]; rfl) (by simp only [List.cons_append, List.nil_append]; rfl) ?_
                        refine wpFacts_skip9 (by rfl) ?_
                        refine wpFacts_norm (by simp only [Act.put, List.setIfInBounds_toArray, List.set_cons_zero, List.set_cons_succ]; rfl) (by simp only [List.cons_append, List.nil_append]; rfl) ?_
                        refine wpFacts_skip9 (by rfl) ?_
                        refine wpFacts_norm (by simp only [Act.put, List.setIfInBounds_toArray, List.set_cons_zero, List.set_cons_succ]; rfl) (by simp only [List.cons_append, List.nil_append]; rfl) ?_
                        refine wpFacts_skip9 (by rfl) ?_
                        refine wpFacts_norm (by simp only [Act.put, List.setIfInBounds_toArray, List.set_cons_zero, List.set_cons_succ]; rfl) (by simp only [List.cons_append, List.nil_append]; rfl) ?_
                        refine wpFacts_skip9 (by rfl) ?_
                        refine wpFacts_norm (by simp only [Act.put, List.setIfInBounds_toArray, List.set_cons_zero, List.set_cons_succ]; rfl) (by simp only [List.cons_append, List.nil_append]; rfl) ?_
                        refine wpFacts_skip9 (by rfl) ?_
                        refine wpFacts_norm (by simp only [Act.put, List.setIfInBounds_toArray, List.set_cons_zero, List.set_cons_succ]; rfl) (by simp only [List.cons_append, List.nil_append]; rfl) ?_
                        refine wpFacts_skip9 (by rfl) ?_
                        refine wpFacts_norm (by simp only [Act.put, List.setIfInBounds_toArray, List.set_cons_zero, List.set_cons_succ]; rfl) (by simp only [List.cons_append, List.nil_append]; rfl) ?_
                        refine wpFacts_skip9 (by rfl) ?_
                        refine wpFacts_norm (by simp only [Act.put, List.setIfInBounds_toArray, List.set_cons_zero, List.set_cons_succ]; rfl) (by simp only [List.cons_append, List.nil_append]; rfl) ?_
                        refine wpFacts_val (by rfl) (fun w1 hL hd K hK => ?_) ?_
                        · go_simp
                          exact hK _ (Lat.refl _)
                        refine wpFacts_norm (by simp only [Act.put, List.setIfInBounds_toArray, List.set_cons_zero, List.set_cons_succ]; rfl) (by simp only [List.cons_append, List.nil_append]; rfl) ?_
                        intro wz hLz haz
                        have hLd : Hid (Below wq.heap.size wq wz) := hLz.of_drew
                        have hB2 : Hid (Below M w5 wz) := hB1.out.trans (hLd.out.mono (HMZ.out _ hB1.out))
                        have hA2 : Hid (wz.heap[M]? = some (.cells (inn.map Value.bool).toArray 4 (0, 0))) := (hLd.out.block _ (Array.getElem?_eq_some_iff.1 hA1.out).1).trans hA1.out
                        have hR2 : Hid (wz.heap[R]? = some (.cells #[.int .i64 lf, .slice (some ⟨xb, xof, none⟩) rs.length yc] 31 (0, 0))) := (hLd.out.block _ (Array.getElem?_eq_some_iff.1 hR1.out).1).trans hR1.out
                        have hO2 : Hid (OwnInts M wz (.slice (some ⟨lb, lof, none⟩) l.length lc) l) := ownsRow_below hO1.out hLd.out
                        clear hLz haz hLd hB1 hA1 hO1 hR1 HD
                        have N2 : Hid _ := HSKk.out (fun _ _ => rfl)
                        clear HADk HSKk AP CZ
                        go_wp2_with fail
                        go_roundw
                        case rel => exact ⟨k + 1, l, inn, _, lc, by omega, rfl, by go_num, hil, hB2, hA2, hO2, hR2, N2⟩
                        case measure => simp [intOf]; omega
                · have hne : (lf == fi) = false := by simp [heq]
                  have N2 : Hid _ := HRa.out l inn k hS.out hil (fun e => absurd (e.symm.trans FI.out) heq)
                  clear hS heq
                  rw [hne]
                  go_wp2_with fail
                  go_roundw
                  case rel => exact ⟨r + 1, l, inn, _, lc, by omega, rfl, by go_num, hil, hB1, hA1, hO1, N2⟩
                  case measure => simp [intOf]; omega
            · obtain rfl : k = rs.length := by omega
              have hki : ¬ (rs.length : Int) < (rs.length : Int) := by omega
              refine wp_region_lat [.val (.int .i64 rs.length), .val (.pointer (some ⟨R, 1, none⟩)), .val (.slice yo rs.length yc), .val (.int .i64 rs.length), .val (.bool false), .val (.bool false), .val undef, .val undef, .val undef, .val undef, .val undef, .val undef, .val undef, .val (.bool false)] [] (by kernel_rfl) (by kernel_rfl) rfl ?kept ?walk
              case kept => exact trivial
              case walk =>
                refine wpFacts_val (by rfl) (fun w1 hL hd K hK => ?_) ?_
                · go_simp
                  exact hK _ (Lat.refl _)
                refine wpFacts_norm (by simp only [Act.put, List.setIfInBounds_toArray, List.set_cons_zero, List.set_cons_succ]; rfl) (by simp only [List.nil_append]; rfl) ?_
                refine wpFacts_val (by rfl) (fun w1 hL hd K hK => ?_) ?_
                · go_simp
                  exact hK _ (Lat.refl _)
                refine wpFacts_norm (by simp only [Act.put, List.setIfInBounds_toArray, List.set_cons_zero, List.set_cons_succ]; rfl) (by simp only [List.cons_append, List.nil_append]; rfl) ?_
                refine wpFacts_val (by rfl) (fun w1 hL hd K hK => ?_) ?_
                · obtain ⟨d0, d1, d2⟩ := HC.out w1 hL
                  go_simp
                  exact hK _ (Lat.refl _)
                refine wpFacts_norm (by simp only [Act.put, List.setIfInBounds_toArray, List.set_cons_zero, List.set_cons_succ]; rfl) (by simp only [List.cons_append, List.nil_append]; rfl) ?_
                refine wpFacts_val (by rfl) (fun w1 hL hd K hK => ?_) ?_
                · go_simp
                  exact hK _ (Lat.refl _)
                refine wpFacts_norm (by simp only [Act.put, List.setIfInBounds_toArray, List.set_cons_zero, List.set_cons_succ]; rfl) (by simp only [List.cons_append, List.nil_append]; rfl) ?_
                refine wpFacts_val (by rfl) (fun w1 hL hd K hK => ?_) ?_
                · go_simp
                  exact hK _ (Lat.refl _)
                refine wpFacts_norm (by simp only [Act.put, List.setIfInBounds_toArray, List.set_cons_zero, List.set_cons_succ]; rfl) (by simp only [List.cons_append, List.nil_append]; rfl) ?_
                refine wpFacts_val (by rfl) (fun w1 hL hd K hK => ?_) ?_
                · go_simp
                  exact hK _ (Lat.refl _)
                refine wpFacts_norm (by simp only [Act.put, List.setIfInBounds_toArray, List.set_cons_zero, List.set_cons_succ]; rfl) (by simp only [List.cons_append, List.nil_append]; rfl) ?_
                refine wpFacts_skip9 (by rfl) ?_
                refine wpFacts_norm (by simp only [Act.put, List.setIfInBounds_toArray, List.set_cons_zero, List.set_cons_succ]; rfl) (by simp only [List.cons_append, List.nil_append]; rfl) ?_
                refine wpFacts_skip9 (by rfl) ?_
                refine wpFacts_norm (by simp only [Act.put, List.setIfInBounds_toArray, List.set_cons_zero, List.set_cons_succ]; rfl) (by simp only [List.cons_append, List.nil_append]; rfl) ?_
                refine wpFacts_skip9 (by rfl) ?_
                refine wpFacts_norm (by simp only [Act.put, List.setIfInBounds_toArray, List.set_cons_zero, List.set_cons_succ]; rfl) (by simp only [List.cons_append, List.nil_append]; rfl) ?_
                refine wpFacts_skip9 (by rfl) ?_
                refine wpFacts_norm (by simp only [Act.put, List.setIfInBounds_toArray, List.set_cons_zero, List.set_cons_succ]; rfl) (by simp only [List.cons_append, List.nil_append]; rfl) ?_
                refine wpFacts_skip9 (by rfl) ?_
                refine wpFacts_norm (by simp only [Act.put, List.setIfInBounds_toArray, List.set_cons_zero, List.set_cons_succ]; rfl) (by simp only [List.cons_append, List.nil_append]; rfl) ?_
                refine wpFacts_skip9 (by rfl) ?_
                refine wpFacts_norm (by simp only [Act.put, List.setIfInBounds_toArray, List.set_cons_zero, List.set_cons_succ]; rfl) (by simp only [List.cons_append, List.nil_append]; rfl) ?_
                refine wpFacts_skip9 (by rfl) ?_
                refine wpFacts_norm (by simp only [Act.put, List.setIfInBounds_toArray, List.set_cons_zero, List.set_cons_succ]; rfl) (by simp only [List.cons_append, List.nil_append]; rfl) ?_
                refine wpFacts_val (by rfl) (fun w1 hL hd K hK => ?_) ?_
                · go_simp
                  exact hK _ (Lat.refl _)
                refine wpFacts_norm (by simp only [Act.put, List.setIfInBounds_toArray, List.set_cons_zero, List.set_cons_succ]; rfl) (by simp only [List.cons_append, List.nil_append]; rfl) ?_
                intro wq hLq haq
                clear haq HC
                have hLd : Hid (Below wr.heap.size wr wq) := hLq.of_drew
                have hB1 : Hid (Below M w5 wq) := hB.out.trans (hLd.out.mono (HMZ.out _ hB.out))
                have hA1 : Hid (wq.heap[M]? = some (.cells (inn.map Value.bool).toArray 4 (0, 0))) := (hLd.out.block _ (Array.getElem?_eq_some_iff.1 hA.out).1).trans hA.out
                have hR1 : Hid (wq.heap[R]? = some (.cells #[.int .i64 lf, .slice yo rs.length yc] 31 (0, 0))) := (hLd.out.block _ (Array.getElem?_eq_some_iff.1 hRb.out).1).trans hRb.out
                have hO1 : Hid (OwnInts M wq (.slice (some ⟨lb, lof, none⟩) l.length lc) l) := ownsRow_below hO.out hLd.out
                clear hLq hLd hB hA hO hRb
                have N2 : Hid _ := HRa.out l inn rs.length hS.out hil (fun _ => rfl)
                clear hS
                go_wp2_with fail
                go_roundw
                case rel => exact ⟨r + 1, l, inn, _, lc, by omega, rfl, by go_num, hil, hB1, hA1, hO1, N2⟩
                case measure => simp [intOf]; omega
        · obtain rfl : r = g.rules.length := by omega
          have hri : ¬ (g.rules.length : Int) < (g.rules.length : Int) := by omega
          have N2 : Hid _ := hS.out.next
          clear hS
          go_wp2_with fail
          go_roundw
          case rel => exact ⟨i + 1, l, inn, lo, lc, by omega, rfl, by go_num, hB, hA, hO, N2⟩
          case measure => simp [intOf]; omega
    · obtain rfl : i = l.length := by omega
      have hii : ¬ (l.length : Int) < (l.length : Int) := by omega
      obtain ⟨HBw, hgb⟩ := HBB.out wr hB.out
      have HBw2 : Hid (Below w.heap.size w wr) := HBw
      obtain ⟨g0, g1, g2, _⟩ := cells_three_z hgb
      have hgz := (Array.getElem?_eq_some_iff.1 hgb).1
      have hMl := (Array.getElem?_eq_some_iff.1 hA.out).1
      have RE : Fo.lastG g = inn := LIS.out inn hS.out.len fun x => hS.out.end (by omega) x
      have hil := hS.out.len
      have BI : Hid (BoolsAt wr.heap.size wr (some ⟨M, 0, none⟩) inn) := by
        intro k hk
        have hk2 : k < inn.length := by simpa using hk
        refine ⟨M, 0, rfl, hMl, hMl, ?_⟩
        have := (bools_cell hA.out k hk2).1
        simpa using this
      clear hgb HBw hS hO hA hB hMl
      go_wp2_with (go_at_call 14; fail)
      refine Calls.mono (HLS.out wr HBw2.out) ?_
      rintro e w9 ⟨xo, xc, rfl, hl9, hb9⟩
      have HB9 : Hid (Below w.heap.size w w9) := HBw2.out.trans (hb9.out.mono HBw2.out.size)
      have hl9b := hl9.out
      rw [RE] at hl9b
      have HKB : Hid (Calls Try.prog 13 #[.slice xo inn.length xc, .slice (some ⟨M, 0, none⟩) inn.length g.names.length] w9 fun e w' => e = .returned (.bool true) ∧ Below w9.heap.size w9 w') := keepBools_is true inn inn (by rw [hil]; omega) xo _ xc _ w9 hl9b (BI.out.next hb9.out) rfl rfl
      rw [hil] at HKB
      clear g0 g1 g2 hgz hl9 hl9b hb9 BI RE HBw2
      go_wp2_with (go_at_call 13; fail)
      refine Calls.mono HKB.out ?_
      rintro e w10 ⟨rfl, hb10⟩
      have HB10 : Hid (Below w.heap.size w w10) := HB9.out.trans (hb10.mono HB9.out.size)
      clear hb10 HKB HB9
      go_wp2_with (go_at_call 11; refine Calls.mono (fowakes_any _) ?_; rintro e w3 ⟨rfl, hb3⟩)
      go_ret
      exact ⟨rfl, HB10.out.trans (hb3.mono HB10.out.size)⟩

theorem followLast_walk (g : Gr.Gm) (A : GA) (w : World) (h : GmAt w.heap.size w g A) (hr : ∀ r ∈ g.rules, r.2.length ≤ maxLen ∧ rlWf r) :
    Calls Try.prog 3 #[.agg (gmCells g A)] w fun e w' => e = .returned (.bool true) ∧ Below w.heap.size w w' := by
  have hm : ∀ r ∈ g.rules, r.2.length ≤ maxLen := fun r h => (hr r h).1
  cases hl : Gr.large g
  · cases hg : Gr.good g
    · exact followLast_out g A w h hm (.inr ⟨hl, .inl hg⟩)
    · cases hs : Fo.light g
      · exact followLast_out g A w h hm (.inr ⟨hl, .inr ⟨hg, hs⟩⟩)
      · exact followLast_in g A w h hm hl hg hs
  · exact followLast_out g A w h hm (.inl hl)
end Go.Proofs.Ytdocbgfpnaiijaa
