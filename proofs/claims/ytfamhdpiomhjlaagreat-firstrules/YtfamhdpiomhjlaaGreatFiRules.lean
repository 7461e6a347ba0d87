/-
  The law FirstRules, walked: it returns true, of every grammar and two rows of numbers.
-/
import Derived.Test.YtfamhdpiomhjlaaGreatFiRuleMath
import Derived.Test.YtfamhdpiomhjlaaGreatFiTwo
import Derived.Test.YtfamhdpiomhjlaaGreatRuleLib
import Derived.Test.YtfamhdpiomhjlaaGreatGrRefGood
namespace Go.Proofs.YtfamhdpiomhjlaaGreat
open Go.RowKit Go.Conc

set_option maxRecDepth 100000 in
set_option maxHeartbeats 3200000 in
theorem firstRules_out (g : Gr.Gm) (A : GA) (ao : Option Addr) (c : Nat) (l : List Int) (bo : Option Addr) (d : Nat) (m : List Int) (w : World) (h : GmAt w.heap.size w g A) (hm : ∀ r ∈ g.rules, r.2.length ≤ maxLen) (hl : Gr.large g = true ∨ Gr.large g = false ∧ (Gr.good g = false ∨ Gr.good g = true ∧ (20 < l.length ∨ l.length ≤ 20 ∧ 20 < m.length))) :
    Calls Tryz.prog 3 #[.agg (gmCells g A), .slice ao l.length c, .slice bo m.length d] w fun e w' => e = .returned (.bool true) ∧ Below w.heap.size w w' := by
  obtain ⟨ta, tc, na, nc, ra, rc⟩ := A
  have hbW : Hid (Below w.heap.size w (w.alloc (Obj.cells #[.slice ta g.terms.length tc, .slice na g.names.length nc, .slice ra g.rules.length rc] 25))) := (Below.refl _ w).alloc (Nat.le_refl _) _
  have b0 : Hid ((w.alloc (Obj.cells #[.slice ta g.terms.length tc, .slice na g.names.length nc, .slice ra g.rules.length rc] 25)).heap[w.heap.size]? = some (.cells #[.slice ta g.terms.length tc, .slice na g.names.length nc, .slice ra g.rules.length rc] 25 (0, 0))) := heap_alloc_new w _
  have HLG : Hid (∀ (r : Bool) (W : World), Below w.heap.size w W → Gr.large g = r → Calls Tryz.prog 7 #[.agg (gmCells g ⟨ta, tc, na, nc, ra, rc⟩)] W fun e w' => e = .returned (.bool r) ∧ Below W.heap.size W w') := fun r W hW hl => large_is r g _ W hm (h.later hW).size hl
  have HGD : Hid (∀ (r : Bool) (W : World), Below w.heap.size w W → Gr.good g = r → Calls Tryz.prog 8 #[.agg (gmCells g ⟨ta, tc, na, nc, ra, rc⟩)] W fun e w' => e = .returned (.bool r) ∧ Below W.heap.size W w') := fun r W hW hr => refGood_any r g _ W hm (h.next hW) (by rw [Gr.refGood_is]; exact hr)
  simp only [gmCells] at HLG HGD ⊢
  clear h hm
  rcases hl with hl | ⟨hl, ho⟩
  · have HL1 : Hid (∀ _ : Unit, _) := fun _ => HLG.out true _ hbW.out hl
    clear HLG hl HGD
    go_enter Tryz.func3, Tryz.ntmps3
    go_wp2_with (first | (go_at_call 7; refine Calls.mono (HL1.out ()) ?_; rintro e w1 ⟨rfl, hb1⟩) | (go_at_call 9; refine Calls.mono (fwakes_any _) ?_; rintro e w3 ⟨rfl, hb3⟩))
    go_ret
    exact ⟨rfl, (hbW.out.trans (hb1.mono hbW.out.size)).trans (hb3.mono (hbW.out.trans (hb1.mono hbW.out.size)).size)⟩
  · have HL1 : Hid (∀ _ : Unit, _) := fun _ => HLG.out false _ hbW.out hl
    clear HLG hl
    rcases ho with hg | ⟨hg, h8⟩
    · have HG1 : Hid (∀ (W : World), Below w.heap.size w W → _) := fun W hW => HGD.out false W hW hg
      clear hg HGD
      go_enter Tryz.func3, Tryz.ntmps3
      go_wp2_with (go_at_call 7; fail)
      generalize (w.alloc (Obj.cells #[.slice ta g.terms.length tc, .slice na g.names.length nc, .slice ra g.rules.length rc] 25)) = W at *
      refine Calls.mono (HL1.out ()) ?_
      rintro e w1 ⟨rfl, hb1⟩
      have HB1 : Hid (Below w.heap.size w w1) := hbW.out.trans (hb1.mono hbW.out.size)
      obtain ⟨g0, g1, g2, _⟩ := cells_three_z ((hb1.block _ (Array.getElem?_eq_some_iff.1 b0.out).1).trans b0.out)
      clear hb1 b0 hbW HL1
      go_wp2_with (go_at_call 8; fail)
      refine Calls.mono (HG1.out _ HB1.out) ?_
      rintro e w2 ⟨rfl, hb2⟩
      have HB2 : Hid (Below w.heap.size w w2) := HB1.out.trans (hb2.mono HB1.out.size)
      clear g0 g1 g2 hb2 HB1 HG1
      go_wp2_with (go_at_call 9; refine Calls.mono (fwakes_any _) ?_; rintro e w3 ⟨rfl, hb3⟩)
      go_ret
      exact ⟨rfl, HB2.out.trans (hb3.mono HB2.out.size)⟩
    · have HG1 : Hid (∀ (W : World), Below w.heap.size w W → _) := fun W hW => HGD.out true W hW hg
      clear hg HGD
      go_enter Tryz.func3, Tryz.ntmps3
      go_wp2_with (go_at_call 7; fail)
      generalize (w.alloc (Obj.cells #[.slice ta g.terms.length tc, .slice na g.names.length nc, .slice ra g.rules.length rc] 25)) = W at *
      refine Calls.mono (HL1.out ()) ?_
      rintro e w1 ⟨rfl, hb1⟩
      have HB1 : Hid (Below w.heap.size w w1) := hbW.out.trans (hb1.mono hbW.out.size)
      have b1 : Hid _ := (hb1.block _ (Array.getElem?_eq_some_iff.1 b0.out).1).trans b0.out
      obtain ⟨g0, g1, g2, _⟩ := cells_three_z b1.out
      clear hb1 b0 hbW HL1
      go_wp2_with (go_at_call 8; fail)
      refine Calls.mono (HG1.out _ HB1.out) ?_
      rintro e w2 ⟨rfl, hb2⟩
      have HB2 : Hid (Below w.heap.size w w2) := HB1.out.trans (hb2.mono HB1.out.size)
      have b2 : Hid _ := (hb2.block _ (Array.getElem?_eq_some_iff.1 b1.out).1).trans b1.out
      clear g0 g1 g2
      obtain ⟨g0, g1, g2, _⟩ := cells_three_z b2.out
      clear hb2 HB1 HG1 b1 b2
      rcases h8 with h8 | ⟨h8, h60⟩
      · have h8i : (20 : Int) < (l.length : Int) := by omega
        go_wp2_with (go_at_call 9; refine Calls.mono (fwakes_any _) ?_; rintro e w3 ⟨rfl, hb3⟩)
        go_ret
        exact ⟨rfl, HB2.out.trans (hb3.mono HB2.out.size)⟩
      · have h8i : ¬ (20 : Int) < (l.length : Int) := by omega
        have h60i : (20 : Int) < (m.length : Int) := by omega
        go_wp2_with (go_at_call 9; refine Calls.mono (fwakes_any _) ?_; rintro e w3 ⟨rfl, hb3⟩)
        go_ret
        exact ⟨rfl, HB2.out.trans (hb3.mono HB2.out.size)⟩

set_option maxRecDepth 100000 in
set_option maxHeartbeats 102400000 in
theorem firstRules_in (g : Gr.Gm) (A : GA) (ao : Option Addr) (c : Nat) (l : List Int) (bo : Option Addr) (d : Nat) (m : List Int) (w : World) (h : GmAt w.heap.size w g A) (hm : ∀ r ∈ g.rules, r.2.length ≤ maxLen) (hl : Gr.large g = false) (hg : Gr.good g = true) (hll : l.length ≤ 20) (hml : m.length ≤ 20)
    (hx : KindAt .u8 w.heap.size w ao l) (hx0 : ∀ x ∈ l, 0 ≤ x ∧ x < 256) (hy : KindAt .u8 w.heap.size w bo m) (hy0 : ∀ x ∈ m, 0 ≤ x ∧ x < 256) :
    Calls Tryz.prog 3 #[.agg (gmCells g A), .slice ao l.length c, .slice bo m.length d] w fun e w' => e = .returned (.bool true) ∧ Below w.heap.size w w' := by
  obtain ⟨ta, tc, na, nc, ra, rc⟩ := A
  have HM : Hid _ := hm
  have HG : Hid (GmAt w.heap.size w g ⟨ta, tc, na, nc, ra, rc⟩) := h
  have HX : Hid (KindAt .u8 w.heap.size w ao l) := hx
  have HX0 : Hid _ := hx0
  have HY : Hid (KindAt .u8 w.heap.size w bo m) := hy
  have HY0 : Hid _ := hy0
  obtain ⟨hsz, h8⟩ := Nl.sizes_of hg
  have H8 : Hid _ := h8
  have HGD0 : Hid (Gr.good g = true) := hg
  have hsl : (Fi.setsG g).length = g.terms.length + g.names.length := Fi.setsG_len hg
  have HEND : Hid (∀ (b : Nat) (_ : b < g.terms.length + g.names.length), Fi.rise (Fi.acc g b g.rules.length) = (Fi.setsG g).getD b []) := fun b hb => Fi.acc_end hg b hb
  have HOK : Hid (∀ q ∈ g.rules, Fi.okG g q.2 = true) := fun q hq => Fi.okG_rule hg hq
  have hbW : Hid (Below w.heap.size w (w.alloc (Obj.cells #[.slice ta g.terms.length tc, .slice na g.names.length nc, .slice ra g.rules.length rc] 25))) := (Below.refl _ w).alloc (Nat.le_refl _) _
  have b0 : Hid ((w.alloc (Obj.cells #[.slice ta g.terms.length tc, .slice na g.names.length nc, .slice ra g.rules.length rc] 25)).heap[w.heap.size]? = some (.cells #[.slice ta g.terms.length tc, .slice na g.names.length nc, .slice ra g.rules.length rc] 25 (0, 0))) := heap_alloc_new w _
  have HL1 : Hid (∀ (W : World), Below w.heap.size w W → Calls Tryz.prog 7 #[.agg (gmCells g ⟨ta, tc, na, nc, ra, rc⟩)] W fun e w' => e = .returned (.bool false) ∧ Below W.heap.size W w') := fun W hW => large_is false g _ W hm (h.later hW).size hl
  have HGD : Hid (∀ (W : World), Below w.heap.size w W → Calls Tryz.prog 8 #[.agg (gmCells g ⟨ta, tc, na, nc, ra, rc⟩)] W fun e w' => e = .returned (.bool true) ∧ Below W.heap.size W w') := fun W hW => refGood_any true g _ W hm (h.next hW) (by rw [Gr.refGood_is]; exact hg)
  have HSE : Hid (∀ (W : World), Below w.heap.size w W → Calls Tryz.prog 10 #[.agg (gmCells g ⟨ta, tc, na, nc, ra, rc⟩)] W fun e w' => ∃ xo xc, e = .returned (.slice xo (Fi.setsG g).length xc) ∧ Hid (LisAt w'.heap.size w' xo (Fi.setsG g)) ∧ Hid (Below W.heap.size W w')) := fun W hW => fsets_is g _ W hm (h.next hW)
  have HOF : Hid (∀ (W : World) (x : List Int) (yo : Option Addr) (yc : Nat), Below w.heap.size w W → IntsAt W.heap.size W yo x → x.length ≤ 4000 → x.length ≤ yc → Fi.okG g x = true → Calls Tryz.prog 11 #[.agg (gmCells g ⟨ta, tc, na, nc, ra, rc⟩), .slice yo x.length yc] W fun e w' => ∃ xo xc, e = .returned (.tuple #[.slice xo (Fi.ofG g x).length xc, .int .i64 0]) ∧ Hid (IntsAt w'.heap.size w' xo (Fi.ofG g x)) ∧ Hid (Below W.heap.size W w')) := fun W x yo yc hW hx h4 hc hk => fof_is g _ x yo yc 0 W hm (h.next hW) hx h4 hc (by rw [hk]; rfl)
  have HAL : Hid (∀ (W : World) (x : List Int) (yo : Option Addr) (yc : Nat) (r : Bool), Below w.heap.size w W → IntsAt W.heap.size W yo x → x.length ≤ 4000 → Nl.all g x = r → Calls Tryz.prog 14 #[.agg (gmCells g ⟨ta, tc, na, nc, ra, rc⟩), .slice yo x.length yc] W fun e w' => e = .returned (.bool r) ∧ Below W.heap.size W w') := fun W x yo yc r hW hx h4 hr => nall_is r g _ x yo yc W hm (h.next hW) hx h4 hr
  have h20 : ¬ (20 : Int) < (l.length : Int) := by omega
  have h20m : ¬ (20 : Int) < (m.length : Int) := by omega
  rw [hsl] at HSE
  simp only [gmCells] at HL1 HGD HSE HOF HAL ⊢
  clear h hm h8 hg hl hx hx0 hy hy0
  generalize hnn : g.terms.length + g.names.length = nn at *
  have hnI : (g.terms.length : Int) + (g.names.length : Int) = (nn : Int) := by omega
  have hneq : ((nn : Int) != (nn : Int)) = false := by simp
  have hmT := make_boolsN g.terms.length (by omega)
  go_enter Tryz.func3, Tryz.ntmps3
  go_wp2_with (go_at_call 7; fail)
  generalize (w.alloc (Obj.cells #[.slice ta g.terms.length tc, .slice na g.names.length nc, .slice ra g.rules.length rc] 25)) = W at *
  refine Calls.mono (HL1.out _ hbW.out) ?_
  rintro e w1 ⟨rfl, hb1⟩
  have b1 : Hid _ := (hb1.block _ (Array.getElem?_eq_some_iff.1 b0.out).1).trans b0.out
  have HB1 : Hid (Below w.heap.size w w1) := hbW.out.trans (hb1.mono hbW.out.size)
  obtain ⟨g0, g1, g2, _⟩ := cells_three_z b1.out
  clear hb1 b0 hbW HL1
  go_wp2_with (go_at_call 8; fail)
  refine Calls.mono (HGD.out _ HB1.out) ?_
  rintro e w2 ⟨rfl, hb2⟩
  have b2 : Hid _ := (hb2.block _ (Array.getElem?_eq_some_iff.1 b1.out).1).trans b1.out
  have HB2 : Hid (Below w.heap.size w w2) := HB1.out.trans (hb2.mono HB1.out.size)
  clear g0 g1 g2 hb2 HB1 HGD b1
  obtain ⟨g0, g1, g2, _⟩ := cells_three_z b2.out
  have hz2 := (Array.getElem?_eq_some_iff.1 b2.out).1
  go_wp2_with (go_at_call 10; fail)
  refine Calls.mono (HSE.out _ HB2.out) ?_
  rintro e w5 ⟨xo, xc, rfl, LG, hb5⟩
  have b5 : Hid (w5.heap[w.heap.size]? = some (.cells #[.slice ta g.terms.length tc, .slice na g.names.length nc, .slice ra g.rules.length rc] 25 (0, 0))) := (hb5.out.block _ hz2).trans b2.out
  have HB5 : Hid (Below w.heap.size w w5) := HB2.out.trans (hb5.out.mono HB2.out.size)
  clear g0 g1 g2 hz2 hb5 HB2 b2 HSE
  have HBB : Hid (∀ W : World, Below w5.heap.size w5 W → Below w.heap.size w W ∧ W.heap[w.heap.size]? = some (.cells #[.slice ta g.terms.length tc, .slice na g.names.length nc, .slice ra g.rules.length rc] 25 (0, 0)) ∧ w5.heap.size ≤ W.heap.size) := fun W hW =>
    ⟨HB5.out.trans (hW.mono HB5.out.size), (hW.block _ (Array.getElem?_eq_some_iff.1 b5.out).1).trans b5.out, hW.size⟩
  clear b5 HB5
  go_wp2_with fail
  go_loopw [9] (fun bv wr => ∃ b : Nat, b ≤ nn ∧ bv = .int .i64 b ∧ Hid (Below w5.heap.size w5 wr)) (fun bv _ => nn - (intOf bv).toNat)
  case atStart => exact ⟨0, Nat.zero_le _, rfl, Below.refl _ _⟩
  case round =>
    obtain ⟨b, hb, rfl, hB⟩ := hrel
    obtain ⟨HBw, hgb, hz5⟩ := HBB.out wr hB.out
    obtain ⟨g0, g1, g2, _⟩ := cells_three_z hgb
    have hgz := (Array.getElem?_eq_some_iff.1 hgb).1
    by_cases hbl : b < nn
    · have hbi : (b : Int) < (nn : Int) := by omega
      have hb1 : Hid (Below wr.heap.size wr (wr.alloc (.cells (Array.replicate g.terms.length (Value.bool false)) 4))) := (Below.refl _ wr).alloc (Nat.le_refl _) _
      have HBa : Hid (Below w5.heap.size w5 (wr.alloc (.cells (Array.replicate g.terms.length (Value.bool false)) 4))) := hB.out.trans (hb1.out.mono hz5)
      have hH : Hid ((wr.alloc (.cells (Array.replicate g.terms.length (Value.bool false)) 4)).heap[wr.heap.size]? = some (.cells ((List.replicate g.terms.length false).map Value.bool).toArray 4 (0, 0))) := by
        show _ = _; rw [heap_alloc_new]; simp
      by_cases hbT : b < g.terms.length
      · have hbTi : (b : Int) < (g.terms.length : Int) := by omega
        go_upto_region 12 with fail
        generalize (wr.alloc (.cells (Array.replicate g.terms.length (Value.bool false)) 4)) = W6 at *
        have hMz : w5.heap.size ≤ wr.heap.size := hz5
        generalize wr.heap.size = M at *
        have c6 : W6.cell? ⟨M, b, none⟩ = some (.bool false) := by
          have := (bools_cell hH.out b (by simp; exact hbT)).1
          simpa using this
        have f6 : W6.frozen? ⟨M, b, none⟩ = false := (bools_cell hH.out b (by simp; exact hbT)).2
        have hl6 := (Array.getElem?_eq_some_iff.1 hH.out).1
        have A7 : Hid ((W6.setCell ⟨M, b, none⟩ (.bool true)).heap[M]? = some (.cells ((Fi.acc g b 0).map Value.bool).toArray 4 (0, 0))) := by
          show _ = _
          have := bools_set hH.out b true
          have e : Fi.acc g b 0 = Nl.tell (List.replicate g.terms.length false) (b : Int) := by show (if b < _ then _ else _) = _; rw [if_pos hbT]
          rw [e]
          simpa [Nl.tell] using this
        have B7 : Hid (Below w5.heap.size w5 (W6.setCell ⟨M, b, none⟩ (.bool true))) := HBa.out.setCell hMz _
        clear hH HBa hb1 hB hgb g0 g1 g2 hgz HBw
        go_upto_region 13 with fail
        generalize (W6.setCell ⟨M, b, none⟩ (.bool true)) = W7 at *
        clear c6 f6 hl6 hbT hbTi
        go_wp2_with fail
        go_loopw [11] (fun rv wr => ∃ r : Nat, r ≤ g.rules.length ∧ rv = .int .i64 r ∧ Hid (Below w5.heap.size w5 wr) ∧ Hid (wr.heap[M]? = some (.cells ((Fi.acc g b r).map Value.bool).toArray 4 (0, 0)))) (fun rv _ => g.rules.length - (intOf rv).toNat)
        case atStart => exact ⟨0, Nat.zero_le _, rfl, B7, A7⟩
        case round =>
          obtain ⟨r, hr, rfl, hB, hA⟩ := hrel
          clear B7 A7
          obtain ⟨HBw, hgb, hz5⟩ := HBB.out wr hB.out
          obtain ⟨g0, g1, g2, _⟩ := cells_three_z hgb
          have hgz := (Array.getElem?_eq_some_iff.1 hgb).1
          by_cases hrl : r < g.rules.length
          · have hri : (r : Int) < (g.rules.length : Int) := by omega
            obtain ⟨rb, ro, yo, yc, rfl, _, _, y0, y1, yI, hyc, _⟩ := (HG.out.later HBw).rules r hrl
            have hok := HOK.out _ (List.getElem_mem hrl)
            have h8 := H8.out _ (List.getElem_mem hrl)
            have AO : Hid (g.rules[r].1 = (b : Int) → Fi.acc g b (r + 1) = (Fi.ofG g g.rules[r].2).foldl Nl.tell (Fi.acc g b r)) := fun q => Fi.acc_own hrl q
            have AN : Hid (g.rules[r].1 ≠ (b : Int) → Fi.acc g b (r + 1) = Fi.acc g b r) := fun q => Fi.acc_other hrl q
            have hal : (Fi.acc g b r).length = g.terms.length := Fi.acc_len g b r
            generalize g.rules[r] = y at *
            obtain ⟨lf, rs⟩ := y
            simp only at hok h8 AO AN y0 y1 yI hyc
            have YI : Hid (IntsAt w.heap.size wr yo rs) := yI
            generalize Fi.acc g b r = ar at *
            clear yI
            by_cases heq : lf = (b : Int)
            · have hne : (lf != (b : Int)) = false := by simp [heq]
              have AC : Hid _ := AO.out heq
              have HC : Hid (∀ w1 : World, Lat wr.drew w1 → (w1.cell? ⟨w.heap.size, 0, none⟩ = some (.slice ta g.terms.length tc) ∧ w1.cell? ⟨w.heap.size, 1, none⟩ = some (.slice na g.names.length nc) ∧ w1.cell? ⟨w.heap.size, 2, none⟩ = some (.slice (some ⟨rb, ro, none⟩) g.rules.length rc)) ∧ w1.cell? ⟨rb, ro + r * 2 + 1, none⟩ = some (.slice yo rs.length yc)) := fun w1 hL => ⟨⟨cell_later hL.of_drew g0, cell_later hL.of_drew g1, cell_later hL.of_drew g2⟩, cell_later hL.of_drew y1⟩
              have HO1 : Hid (∀ w1 : World, Lat wr.drew w1 → Calls Tryz.prog 11 #[.agg #[.slice ta g.terms.length tc, .slice na g.names.length nc, .slice (some ⟨rb, ro, none⟩) g.rules.length rc], .slice yo rs.length yc] w1 fun e w' => ∃ xo xc, e = .returned (.tuple #[.slice xo (Fi.ofG g rs).length xc, .int .i64 0]) ∧ Hid (IntsAt w'.heap.size w' xo (Fi.ofG g rs)) ∧ Hid (Below w1.heap.size w1 w')) := fun w1 hL => HOF.out w1 rs yo yc (HBw.trans (Below.mono hL.of_drew HBw.size)) (YI.out.later (Below.mono hL.of_drew HBw.size)).size (by omega) hyc hok
              clear AO AN heq
              go_upto_region 17 with fail
              clear g0 g1 g2 hgz hgb y0 y1 hne
              refine wp_region_lat [.val (.agg #[.slice ta g.terms.length tc, .slice na g.names.length nc, .slice (some ⟨rb, ro, none⟩) g.rules.length rc]), .val (.pointer (some ⟨w.heap.size, 2, none⟩)), .val (.slice (some ⟨rb, ro, none⟩) g.rules.length rc), .val (.int .i64 r), .val (.pointer (some ⟨rb, ro + r * 2, none⟩)), .val (.pointer (some ⟨rb, ro + r * 2 + 1, none⟩)), .val (.slice yo rs.length yc), .fact (fun v w' => ∃ xo xc, v = .tuple #[.slice xo (Fi.ofG g rs).length xc, .int .i64 0] ∧ IntsAt w'.heap.size w' xo (Fi.ofG g rs)), .fact (fun v w' => ∃ xo xc, v = .tuple #[.slice xo (Fi.ofG g rs).length xc, .int .i64 0] ∧ IntsAt w'.heap.size w' xo (Fi.ofG g rs)), .fact (fun v w' => ∃ xo xc, v = .slice xo (Fi.ofG g rs).length xc ∧ IntsAt w'.heap.size w' xo (Fi.ofG g rs)), .val (.int .i64 0), .fact (fun v w' => ∃ xo xc, v = .slice xo (Fi.ofG g rs).length xc ∧ IntsAt w'.heap.size w' xo (Fi.ofG g rs)), .val (.int .i64 0)] [] (by kernel_rfl) (by kernel_rfl) rfl ?kept ?walk
              case kept => exact ⟨fun v w1 w2 hL ⟨bo, bc, e, h1⟩ => ⟨bo, bc, e, IntsAt.size (h1.later hL)⟩, fun v w1 w2 hL ⟨bo, bc, e, h1⟩ => ⟨bo, bc, e, IntsAt.size (h1.later hL)⟩, fun v w1 w2 hL ⟨bo, bc, e, h1⟩ => ⟨bo, bc, e, IntsAt.size (h1.later hL)⟩, fun v w1 w2 hL ⟨bo, bc, e, h1⟩ => ⟨bo, bc, e, IntsAt.size (h1.later hL)⟩, trivial⟩
              case walk =>
                refine wpFacts_val (by rfl) (fun w1 hL hd K hK => ?_) ?_
                · obtain ⟨⟨d0, d1, d2⟩, e0⟩ := HC.out w1 hL
                  go_simp
                  exact hK _ (Lat.refl _)
                refine wpFacts_norm (by simp only [Act.put, List.setIfInBounds_toArray, List.set_cons_zero, List.set_cons_succ]; rfl) (by simp only [List.nil_append]; rfl) ?_
                refine wpFacts_val (by rfl) (fun w1 hL hd K hK => ?_) ?_
                · go_simp
                  exact hK _ (Lat.refl _)
                refine wpFacts_norm (by simp only [Act.put, List.setIfInBounds_toArray, List.set_cons_zero, List.set_cons_succ]; rfl) (by simp only [List.cons_append, List.nil_append]; rfl) ?_
                refine wpFacts_val (by rfl) (fun w1 hL hd K hK => ?_) ?_
                · obtain ⟨⟨d0, d1, d2⟩, e0⟩ := HC.out w1 hL
                  go_simp
                  exact hK _ (Lat.refl _)
                refine wpFacts_norm (by simp only [Act.put, List.setIfInBounds_toArray, List.set_cons_zero, List.set_cons_succ]; rfl) (by simp only [List.cons_append, List.nil_append]; rfl) ?_
                refine wpFacts_val (by rfl) (fun w1 hL hd K hK => ?_) ?_
                · go_simp
                  exact hK _ (Lat.refl _)
                refine wpFacts_norm (by simp only [Act.put, List.setIfInBounds_toArray, List.set_cons_zero, List.set_cons_succ]; rfl) (by simp only [List.cons_append, List.nil_append]; rfl) ?_
                refine wpFacts_val (by rfl) (fun w1 hL hd K hK => ?_) ?_
                · go_simp
                  exact hK _ (Lat.refl _)
                refine wpFacts_norm (by simp only [Act.put, List.setIfInBounds_toArray, List.set_cons_zero, List.set_cons_succ]; rfl) (by simp only [List.cons_append, List.nil_append]; rfl) ?_
                refine wpFacts_val (by rfl) (fun w1 hL hd K hK => ?_) ?_
                · go_simp
                  exact hK _ (Lat.refl _)
                refine wpFacts_norm (by simp only [Act.put, List.setIfInBounds_toArray, List.set_cons_zero, List.set_cons_succ]; rfl) (by simp only [List.cons_append, List.nil_append]; rfl) ?_
                refine wpFacts_val (by rfl) (fun w1 hL hd K hK => ?_) ?_
                · obtain ⟨⟨d0, d1, d2⟩, e0⟩ := HC.out w1 hL
                  go_simp
                  exact hK _ (Lat.refl _)
                refine wpFacts_norm (by simp only [Act.put, List.setIfInBounds_toArray, List.set_cons_zero, List.set_cons_succ]; rfl) (by simp only [List.cons_append, List.nil_append]; rfl) ?_
                refine wpFacts_fact (by rfl) (fun w1 hL hd K hK => ?_) (fun v1 => ?_)
                · go_simp
                  refine Calls.mono (HO1.out w1 hL) ?_
                  rintro e w9 ⟨bo, bc, rfl, hb8, hb9⟩
                  exact hK _ _ hb9.out ⟨bo, bc, rfl, hb8.out⟩
                refine wpFacts_norm (by simp only [Act.put, List.setIfInBounds_toArray, List.set_cons_zero, List.set_cons_succ]; rfl) (by simp only [List.cons_append, List.nil_append]; rfl) ?_
                refine wpFacts_fact (by rfl) (fun w1 hL hd K hK => ?_) (fun v2 => ?_)
                · obtain ⟨bo, bc, rfl, q1⟩ : ∃ xo xc, v1 = .tuple #[.slice xo (Fi.ofG g rs).length xc, .int .i64 0] ∧ IntsAt w1.heap.size w1 xo (Fi.ofG g rs) := hd.1
                  go_simp
                  exact hK _ _ (Below.refl _ _) ⟨bo, bc, rfl, q1⟩
                refine wpFacts_norm (by simp only [Act.put, List.setIfInBounds_toArray, List.set_cons_zero, List.set_cons_succ]; rfl) (by simp only [List.cons_append, List.nil_append]; rfl) ?_
                refine wpFacts_fact (by rfl) (fun w1 hL hd K hK => ?_) (fun v3 => ?_)
                · obtain ⟨bo, bc, rfl, q1⟩ : ∃ xo xc, v2 = .tuple #[.slice xo (Fi.ofG g rs).length xc, .int .i64 0] ∧ IntsAt w1.heap.size w1 xo (Fi.ofG g rs) := hd.1
                  go_simp
                  exact hK _ _ (Below.refl _ _) ⟨bo, bc, rfl, q1⟩
                refine wpFacts_norm (by simp only [Act.put, List.setIfInBounds_toArray, List.set_cons_zero, List.set_cons_succ]; rfl) (by simp only [List.cons_append, List.nil_append]; rfl) ?_
                refine wpFacts_val (by rfl) (fun w1 hL hd K hK => ?_) ?_
                · obtain ⟨bo, bc, rfl, q1⟩ : ∃ xo xc, v2 = .tuple #[.slice xo (Fi.ofG g rs).length xc, .int .i64 0] ∧ IntsAt w1.heap.size w1 xo (Fi.ofG g rs) := hd.1
                  go_simp
                  exact hK _ (Below.refl _ _)
                refine wpFacts_norm (by simp only [Act.put, List.setIfInBounds_toArray, List.set_cons_zero, List.set_cons_succ]; rfl) (by simp only [List.cons_append, List.nil_append]; rfl) ?_
                refine wpFacts_fact (by rfl) (fun w1 hL hd K hK => ?_) (fun v4 => ?_)
                · obtain ⟨bo, bc, rfl, q1⟩ : ∃ xo xc, v3 = .slice xo (Fi.ofG g rs).length xc ∧ IntsAt w1.heap.size w1 xo (Fi.ofG g rs) := hd.1
                  go_simp
                  exact hK _ _ (Below.refl _ _) ⟨bo, bc, rfl, q1⟩
                refine wpFacts_norm (by simp only [Act.put, List.setIfInBounds_toArray, List.set_cons_zero, List.set_cons_succ]; rfl) (by simp only [List.cons_append, List.nil_append]; rfl) ?_
                refine wpFacts_val (by rfl) (fun w1 hL hd K hK => ?_) ?_
                · go_simp
                  exact hK _ (Lat.refl _)
                refine wpFacts_norm (by simp only [Act.put, List.setIfInBounds_toArray, List.set_cons_zero, List.set_cons_succ]; rfl) (by simp only [List.cons_append, List.nil_append]; rfl) ?_
                intro w2 hL ha
                obtain ⟨po, pc, rfl, PI0⟩ : ∃ xo xc, v4 = .slice xo (Fi.ofG g rs).length xc ∧ IntsAt w2.heap.size w2 xo (Fi.ofG g rs) := allHold_get 11 ha rfl rfl
                have hB2 : Hid (Below w5.heap.size w5 w2) := hB.out.trans (Below.mono hL.of_drew hz5)
                have hz2 : w5.heap.size ≤ w2.heap.size := hB2.out.size
                have hA2 : Hid _ := (hL.of_drew.block _ (Array.getElem?_eq_some_iff.1 hA.out).1).trans hA.out
                have HMK : Hid _ := mark_any ar g.terms.length M (Fi.ofG g rs) po pc w2 hal hA2.out PI0 Fi.ofG_in (Nat.le_trans (Fi.ofG_short g rs) (by omega))
                rw [← AC.out] at HMK
                have hTT : g.terms.length ≤ 40 := by omega
                clear ha hL PI0 HC HO1 hB hA YI HBw hz5 hok h8 hyc
                go_wp2_with (go_at_call 12; fail)
                refine Calls.mono HMK.out ?_
                rintro e wq ⟨rfl, hmk, hbk⟩
                have HBq : Hid (Below w5.heap.size w5 wq) := hB2.out.trans (hbk.out.below (fun q hq => by rw [List.mem_singleton] at hq; omega) hz2)
                clear HMK hbk hB2 hA2 AC
                go_wp2_with fail
                go_roundw
                case rel => exact ⟨r + 1, by omega, by go_num, HBq, hmk⟩
                case measure => simp [intOf]; omega
            · have hne : (lf != (b : Int)) = true := by simp [heq]
              have hA3 : Hid (wr.heap[M]? = some (.cells ((Fi.acc g b (r + 1)).map Value.bool).toArray 4 (0, 0))) := by show _ = _; rw [AN.out heq]; exact hA.out
              clear AO AN heq YI hA
              go_wp2_with fail
              go_roundw
              case rel => exact ⟨r + 1, by omega, by go_num, hB, hA3⟩
              case measure => simp [intOf]; omega
          · obtain rfl : r = g.rules.length := by omega
            have hri : ¬ (g.rules.length : Int) < (g.rules.length : Int) := by omega
            have hsb : b < (Fi.setsG g).length := by omega
            obtain ⟨sb, sof, sx, sc, rfl, _, _, s0, sI⟩ := (LG.out.later hB.out) b hsb
            have hal : (Fi.acc g b g.rules.length).length = g.terms.length := Fi.acc_len g b _
            have RE := HEND.out b hbl
            have e : (Fi.setsG g).getD b [] = (Fi.setsG g)[b] := by simp [List.getD_eq_getElem?_getD, hsb]
            rw [e] at RE
            have hMl := (Array.getElem?_eq_some_iff.1 hA.out).1
            have HSM : Hid (Calls Tryz.prog 13 #[.slice (some ⟨M, 0, none⟩) g.terms.length g.terms.length, .slice sx ((Fi.setsG g)[b]).length sc] wr fun e w' => e = .returned (.bool true) ∧ w' = wr) := by
              have := same_any (Fi.acc g b g.rules.length) (Fi.setsG g)[b] (some ⟨M, 0, none⟩) sx g.terms.length sc wr (fun k hk => ⟨M, 0, rfl, hMl, hMl, by
                have hk2 : k < (Fi.acc g b g.rules.length).length := by simpa using hk
                have := (bools_cell hA.out k hk2).1
                simpa using this⟩) (IntsAt.size sI) RE (by rw [hal]; omega)
              rw [hal] at this
              exact this
            clear RE e sI hA hMl hal
            generalize (Fi.setsG g)[b] = sv at *
            clear hsb
            go_wp2_with (go_at_call 13; fail)
            refine Calls.mono HSM.out ?_
            rintro e wq ⟨rfl, rfl⟩
            clear HSM
            go_wp2_with fail
            go_roundw
            case rel => exact ⟨b + 1, by omega, by go_num, hB⟩
            case measure => simp [intOf]; omega
      · have hbTi : ¬ (b : Int) < (g.terms.length : Int) := by omega
        go_upto_region 13 with fail
        generalize (wr.alloc (.cells (Array.replicate g.terms.length (Value.bool false)) 4)) = W7 at *
        have hMz : w5.heap.size ≤ wr.heap.size := hz5
        generalize wr.heap.size = M at *
        have A7 : Hid (W7.heap[M]? = some (.cells ((Fi.acc g b 0).map Value.bool).toArray 4 (0, 0))) := by
          show _ = _
          have e : Fi.acc g b 0 = List.replicate g.terms.length false := by show (if b < _ then _ else _) = _; rw [if_neg hbT]
          rw [e]; exact hH.out
        have B7 : Hid (Below w5.heap.size w5 W7) := HBa.out
        clear hH HBa hb1 hB hgb g0 g1 g2 hgz HBw hbT hbTi
        go_wp2_with fail
        go_loopw [11] (fun rv wr => ∃ r : Nat, r ≤ g.rules.length ∧ rv = .int .i64 r ∧ Hid (Below w5.heap.size w5 wr) ∧ Hid (wr.heap[M]? = some (.cells ((Fi.acc g b r).map Value.bool).toArray 4 (0, 0)))) (fun rv _ => g.rules.length - (intOf rv).toNat)
        case atStart => exact ⟨0, Nat.zero_le _, rfl, B7, A7⟩
        case round =>
          obtain ⟨r, hr, rfl, hB, hA⟩ := hrel
          clear B7 A7
          obtain ⟨HBw, hgb, hz5⟩ := HBB.out wr hB.out
          obtain ⟨g0, g1, g2, _⟩ := cells_three_z hgb
          have hgz := (Array.getElem?_eq_some_iff.1 hgb).1
          by_cases hrl : r < g.rules.length
          · have hri : (r : Int) < (g.rules.length : Int) := by omega
            obtain ⟨rb, ro, yo, yc, rfl, _, _, y0, y1, yI, hyc, _⟩ := (HG.out.later HBw).rules r hrl
            have hok := HOK.out _ (List.getElem_mem hrl)
            have h8 := H8.out _ (List.getElem_mem hrl)
            have AO : Hid (g.rules[r].1 = (b : Int) → Fi.acc g b (r + 1) = (Fi.ofG g g.rules[r].2).foldl Nl.tell (Fi.acc g b r)) := fun q => Fi.acc_own hrl q
            have AN : Hid (g.rules[r].1 ≠ (b : Int) → Fi.acc g b (r + 1) = Fi.acc g b r) := fun q => Fi.acc_other hrl q
            have hal : (Fi.acc g b r).length = g.terms.length := Fi.acc_len g b r
            generalize g.rules[r] = y at *
            obtain ⟨lf, rs⟩ := y
            simp only at hok h8 AO AN y0 y1 yI hyc
            have YI : Hid (IntsAt w.heap.size wr yo rs) := yI
            generalize Fi.acc g b r = ar at *
            clear yI
            by_cases heq : lf = (b : Int)
            · have hne : (lf != (b : Int)) = false := by simp [heq]
              have AC : Hid _ := AO.out heq
              have HC : Hid (∀ w1 : World, Lat wr.drew w1 → (w1.cell? ⟨w.heap.size, 0, none⟩ = some (.slice ta g.terms.length tc) ∧ w1.cell? ⟨w.heap.size, 1, none⟩ = some (.slice na g.names.length nc) ∧ w1.cell? ⟨w.heap.size, 2, none⟩ = some (.slice (some ⟨rb, ro, none⟩) g.rules.length rc)) ∧ w1.cell? ⟨rb, ro + r * 2 + 1, none⟩ = some (.slice yo rs.length yc)) := fun w1 hL => ⟨⟨cell_later hL.of_drew g0, cell_later hL.of_drew g1, cell_later hL.of_drew g2⟩, cell_later hL.of_drew y1⟩
              have HO1 : Hid (∀ w1 : World, Lat wr.drew w1 → Calls Tryz.prog 11 #[.agg #[.slice ta g.terms.length tc, .slice na g.names.length nc, .slice (some ⟨rb, ro, none⟩) g.rules.length rc], .slice yo rs.length yc] w1 fun e w' => ∃ xo xc, e = .returned (.tuple #[.slice xo (Fi.ofG g rs).length xc, .int .i64 0]) ∧ Hid (IntsAt w'.heap.size w' xo (Fi.ofG g rs)) ∧ Hid (Below w1.heap.size w1 w')) := fun w1 hL => HOF.out w1 rs yo yc (HBw.trans (Below.mono hL.of_drew HBw.size)) (YI.out.later (Below.mono hL.of_drew HBw.size)).size (by omega) hyc hok
              clear AO AN heq
              go_upto_region 17 with fail
              clear g0 g1 g2 hgz hgb y0 y1 hne
              refine wp_region_lat [.val (.agg #[.slice ta g.terms.length tc, .slice na g.names.length nc, .slice (some ⟨rb, ro, none⟩) g.rules.length rc]), .val (.pointer (some ⟨w.heap.size, 2, none⟩)), .val (.slice (some ⟨rb, ro, none⟩) g.rules.length rc), .val (.int .i64 r), .val (.pointer (some ⟨rb, ro + r * 2, none⟩)), .val (.pointer (some ⟨rb, ro + r * 2 + 1, none⟩)), .val (.slice yo rs.length yc), .fact (fun v w' => ∃ xo xc, v = .tuple #[.slice xo (Fi.ofG g rs).length xc, .int .i64 0] ∧ IntsAt w'.heap.size w' xo (Fi.ofG g rs)), .fact (fun v w' => ∃ xo xc, v = .tuple #[.slice xo (Fi.ofG g rs).length xc, .int .i64 0] ∧ IntsAt w'.heap.size w' xo (Fi.ofG g rs)), .fact (fun v w' => ∃ xo xc, v = .slice xo (Fi.ofG g rs).length xc ∧ IntsAt w'.heap.size w' xo (Fi.ofG g rs)), .val (.int .i64 0), .fact (fun v w' => ∃ xo xc, v = .slice xo (Fi.ofG g rs).length xc ∧ IntsAt w'.heap.size w' xo (Fi.ofG g rs)), .val (.int .i64 0)] [] (by kernel_rfl) (by kernel_rfl) rfl ?kept ?walk
              case kept => exact ⟨fun v w1 w2 hL ⟨bo, bc, e, h1⟩ => ⟨bo, bc, e, IntsAt.size (h1.later hL)⟩, fun v w1 w2 hL ⟨bo, bc, e, h1⟩ => ⟨bo, bc, e, IntsAt.size (h1.later hL)⟩, fun v w1 w2 hL ⟨bo, bc, e, h1⟩ => ⟨bo, bc, e, IntsAt.size (h1.later hL)⟩, fun v w1 w2 hL ⟨bo, bc, e, h1⟩ => ⟨bo, bc, e, IntsAt.size (h1.later hL)⟩, trivial⟩
              case walk =>
                refine wpFacts_val (by rfl) (fun w1 hL hd K hK => ?_) ?_
                · obtain ⟨⟨d0, d1, d2⟩, e0⟩ := HC.out w1 hL
                  go_simp
                  exact hK _ (Lat.refl _)
                refine wpFacts_norm (by simp only [Act.put, List.setIfInBounds_toArray, List.set_cons_zero, List.set_cons_succ]; rfl) (by simp only [List.nil_append]; rfl) ?_
                refine wpFacts_val (by rfl) (fun w1 hL hd K hK => ?_) ?_
                · go_simp
                  exact hK _ (Lat.refl _)
                refine wpFacts_norm (by simp only [Act.put, List.setIfInBounds_toArray, List.set_cons_zero, List.set_cons_succ]; rfl) (by simp only [List.cons_append, List.nil_append]; rfl) ?_
                refine wpFacts_val (by rfl) (fun w1 hL hd K hK => ?_) ?_
                · obtain ⟨⟨d0, d1, d2⟩, e0⟩ := HC.out w1 hL
                  go_simp
                  exact hK _ (Lat.refl _)
                refine wpFacts_norm (by simp only [Act.put, List.setIfInBounds_toArray, List.set_cons_zero, List.set_cons_succ]; rfl) (by simp only [List.cons_append, List.nil_append]; rfl) ?_
                refine wpFacts_val (by rfl) (fun w1 hL hd K hK => ?_) ?_
                · go_simp
                  exact hK _ (Lat.refl _)
                refine wpFacts_norm (by simp only [Act.put, List.setIfInBounds_toArray, List.set_cons_zero, List.set_cons_succ]; rfl) (by simp only [List.cons_append, List.nil_append]; rfl) ?_
                refine wpFacts_val (by rfl) (fun w1 hL hd K hK => ?_) ?_
                · go_simp
                  exact hK _ (Lat.refl _)
                refine wpFacts_norm (by simp only [Act.put, List.setIfInBounds_toArray, List.set_cons_zero, List.set_cons_succ]; rfl) (by simp only [List.cons_append, List.nil_append]; rfl) ?_
                refine wpFacts_val (by rfl) (fun w1 hL hd K hK => ?_) ?_
                · go_simp
                  exact hK _ (Lat.refl _)
                refine wpFacts_norm (by simp only [Act.put, List.setIfInBounds_toArray, List.set_cons_zero, List.set_cons_succ]; rfl) (by simp only [List.cons_append, List.nil_append]; rfl) ?_
                refine wpFacts_val (by rfl) (fun w1 hL hd K hK => ?_) ?_
                · obtain ⟨⟨d0, d1, d2⟩, e0⟩ := HC.out w1 hL
                  go_simp
                  exact hK _ (Lat.refl _)
                refine wpFacts_norm (by simp only [Act.put, List.setIfInBounds_toArray, List.set_cons_zero, List.set_cons_succ]; rfl) (by simp only [List.cons_append, List.nil_append]; rfl) ?_
                refine wpFacts_fact (by rfl) (fun w1 hL hd K hK => ?_) (fun v1 => ?_)
                · go_simp
                  refine Calls.mono (HO1.out w1 hL) ?_
                  rintro e w9 ⟨bo, bc, rfl, hb8, hb9⟩
                  exact hK _ _ hb9.out ⟨bo, bc, rfl, hb8.out⟩
                refine wpFacts_norm (by simp only [Act.put, List.setIfInBounds_toArray, List.set_cons_zero, List.set_cons_succ]; rfl) (by simp only [List.cons_append, List.nil_append]; rfl) ?_
                refine wpFacts_fact (by rfl) (fun w1 hL hd K hK => ?_) (fun v2 => ?_)
                · obtain ⟨bo, bc, rfl, q1⟩ : ∃ xo xc, v1 = .tuple #[.slice xo (Fi.ofG g rs).length xc, .int .i64 0] ∧ IntsAt w1.heap.size w1 xo (Fi.ofG g rs) := hd.1
                  go_simp
                  exact hK _ _ (Below.refl _ _) ⟨bo, bc, rfl, q1⟩
                refine wpFacts_norm (by simp only [Act.put, List.setIfInBounds_toArray, List.set_cons_zero, List.set_cons_succ]; rfl) (by simp only [List.cons_append, List.nil_append]; rfl) ?_
                refine wpFacts_fact (by rfl) (fun w1 hL hd K hK => ?_) (fun v3 => ?_)
                · obtain ⟨bo, bc, rfl, q1⟩ : ∃ xo xc, v2 = .tuple #[.slice xo (Fi.ofG g rs).length xc, .int .i64 0] ∧ IntsAt w1.heap.size w1 xo (Fi.ofG g rs) := hd.1
                  go_simp
                  exact hK _ _ (Below.refl _ _) ⟨bo, bc, rfl, q1⟩
                refine wpFacts_norm (by simp only [Act.put, List.setIfInBounds_toArray, List.set_cons_zero, List.set_cons_succ]; rfl) (by simp only [List.cons_append, List.nil_append]; rfl) ?_
                refine wpFacts_val (by rfl) (fun w1 hL hd K hK => ?_) ?_
                · obtain ⟨bo, bc, rfl, q1⟩ : ∃ xo xc, v2 = .tuple #[.slice xo (Fi.ofG g rs).length xc, .int .i64 0] ∧ IntsAt w1.heap.size w1 xo (Fi.ofG g rs) := hd.1
                  go_simp
                  exact hK _ (Below.refl _ _)
                refine wpFacts_norm (by simp only [Act.put, List.setIfInBounds_toArray, List.set_cons_zero, List.set_cons_succ]; rfl) (by simp only [List.cons_append, List.nil_append]; rfl) ?_
                refine wpFacts_fact (by rfl) (fun w1 hL hd K hK => ?_) (fun v4 => ?_)
                · obtain ⟨bo, bc, rfl, q1⟩ : ∃ xo xc, v3 = .slice xo (Fi.ofG g rs).length xc ∧ IntsAt w1.heap.size w1 xo (Fi.ofG g rs) := hd.1
                  go_simp
                  exact hK _ _ (Below.refl _ _) ⟨bo, bc, rfl, q1⟩
                refine wpFacts_norm (by simp only [Act.put, List.setIfInBounds_toArray, List.set_cons_zero, List.set_cons_succ]; rfl) (by simp only [List.cons_append, List.nil_append]; rfl) ?_
                refine wpFacts_val (by rfl) (fun w1 hL hd K hK => ?_) ?_
                · go_simp
                  exact hK _ (Lat.refl _)
                refine wpFacts_norm (by simp only [Act.put, List.setIfInBounds_toArray, List.set_cons_zero, List.set_cons_succ]; rfl) (by simp only [List.cons_append, List.nil_append]; rfl) ?_
                intro w2 hL ha
                obtain ⟨po, pc, rfl, PI0⟩ : ∃ xo xc, v4 = .slice xo (Fi.ofG g rs).length xc ∧ IntsAt w2.heap.size w2 xo (Fi.ofG g rs) := allHold_get 11 ha rfl rfl
                have hB2 : Hid (Below w5.heap.size w5 w2) := hB.out.trans (Below.mono hL.of_drew hz5)
                have hz2 : w5.heap.size ≤ w2.heap.size := hB2.out.size
                have hA2 : Hid _ := (hL.of_drew.block _ (Array.getElem?_eq_some_iff.1 hA.out).1).trans hA.out
                have HMK : Hid _ := mark_any ar g.terms.length M (Fi.ofG g rs) po pc w2 hal hA2.out PI0 Fi.ofG_in (Nat.le_trans (Fi.ofG_short g rs) (by omega))
                rw [← AC.out] at HMK
                have hTT : g.terms.length ≤ 40 := by omega
                clear ha hL PI0 HC HO1 hB hA YI HBw hz5 hok h8 hyc
                go_wp2_with (go_at_call 12; fail)
                refine Calls.mono HMK.out ?_
                rintro e wq ⟨rfl, hmk, hbk⟩
                have HBq : Hid (Below w5.heap.size w5 wq) := hB2.out.trans (hbk.out.below (fun q hq => by rw [List.mem_singleton] at hq; omega) hz2)
                clear HMK hbk hB2 hA2 AC
                go_wp2_with fail
                go_roundw
                case rel => exact ⟨r + 1, by omega, by go_num, HBq, hmk⟩
                case measure => simp [intOf]; omega
            · have hne : (lf != (b : Int)) = true := by simp [heq]
              have hA3 : Hid (wr.heap[M]? = some (.cells ((Fi.acc g b (r + 1)).map Value.bool).toArray 4 (0, 0))) := by show _ = _; rw [AN.out heq]; exact hA.out
              clear AO AN heq YI hA
              go_wp2_with fail
              go_roundw
              case rel => exact ⟨r + 1, by omega, by go_num, hB, hA3⟩
              case measure => simp [intOf]; omega
          · obtain rfl : r = g.rules.length := by omega
            have hri : ¬ (g.rules.length : Int) < (g.rules.length : Int) := by omega
            have hsb : b < (Fi.setsG g).length := by omega
            obtain ⟨sb, sof, sx, sc, rfl, _, _, s0, sI⟩ := (LG.out.later hB.out) b hsb
            have hal : (Fi.acc g b g.rules.length).length = g.terms.length := Fi.acc_len g b _
            have RE := HEND.out b hbl
            have e : (Fi.setsG g).getD b [] = (Fi.setsG g)[b] := by simp [List.getD_eq_getElem?_getD, hsb]
            rw [e] at RE
            have hMl := (Array.getElem?_eq_some_iff.1 hA.out).1
            have HSM : Hid (Calls Tryz.prog 13 #[.slice (some ⟨M, 0, none⟩) g.terms.length g.terms.length, .slice sx ((Fi.setsG g)[b]).length sc] wr fun e w' => e = .returned (.bool true) ∧ w' = wr) := by
              have := same_any (Fi.acc g b g.rules.length) (Fi.setsG g)[b] (some ⟨M, 0, none⟩) sx g.terms.length sc wr (fun k hk => ⟨M, 0, rfl, hMl, hMl, by
                have hk2 : k < (Fi.acc g b g.rules.length).length := by simpa using hk
                have := (bools_cell hA.out k hk2).1
                simpa using this⟩) (IntsAt.size sI) RE (by rw [hal]; omega)
              rw [hal] at this
              exact this
            clear RE e sI hA hMl hal
            generalize (Fi.setsG g)[b] = sv at *
            clear hsb
            go_wp2_with (go_at_call 13; fail)
            refine Calls.mono HSM.out ?_
            rintro e wq ⟨rfl, rfl⟩
            clear HSM
            go_wp2_with fail
            go_roundw
            case rel => exact ⟨b + 1, by omega, by go_num, hB⟩
            case measure => simp [intOf]; omega
    · have hbe : nn = b := by omega
      subst hbe
      have hbi : ¬ (nn : Int) < (nn : Int) := by omega
      have PZ : Hid (0 < nn) := by show 0 < _; omega
      clear hgb g0 g1 g2 hgz HEND HOK H8 LG hb hsl hmT
      go_wp2_with fail
      go_loopw [14, 16] (fun v iv wr => ∃ (k : Nat) (po : Option Addr) (pc : Nat), k ≤ l.length ∧ v = .slice po k pc ∧ iv = .int .i64 k ∧ Hid (Below w5.heap.size w5 wr) ∧ Hid (OwnInts w5.heap.size wr (.slice po k pc) ((l.take k).map (fun z => z % (nn : Int))))) (fun _ iv _ => l.length - (intOf iv).toNat)
      case atStart => exact ⟨0, none, 0, Nat.zero_le _, rfl, rfl, hB, World.ownsRow_nil _ _ _ _⟩
      case round =>
        obtain ⟨k, po, pc, hk, rfl, rfl, hB, hO⟩ := hrel
        have HBr := (HBB.out wr hB.out).1
        have hzr := (HBB.out wr hB.out).2.2
        have HQ : Hid (((l.take k).map (fun z => z % (nn : Int))).length = k) := by show _ = _; rw [List.length_map, List.length_take]; omega
        by_cases hkl : k < l.length
        · have hki : (k : Int) < (l.length : Int) := by omega
          obtain ⟨lb, lo, hao, _, _, lc⟩ := HX.out k (by simpa using hkl)
          subst hao
          rw [List.getElem_map] at lc
          have hz := HX0.out _ (List.getElem_mem hkl)
          have HK : Hid ((l.take (k + 1)).map (fun z => z % (nn : Int)) = (l.take k).map (fun z => z % (nn : Int)) ++ [l[k] % (nn : Int)]) := by show _ = _; rw [List.take_add_one, List.getElem?_eq_getElem hkl, List.map_append]; rfl
          generalize l[k] = z at *
          generalize (l.take k).map (fun z => z % (nn : Int)) = done at *
          obtain ⟨md, hmd, hmdl⟩ : ∃ md : Nat, z % (nn : Int) = (md : Int) ∧ md < nn := ⟨(z % (nn : Int)).toNat, by have := PZ.out; have := Int.emod_nonneg z (b := (nn : Int)) (by omega); omega, by have := PZ.out; have := Int.emod_lt_of_pos z (b := (nn : Int)) (by omega); have := Int.emod_nonneg z (b := (nn : Int)) (by omega); omega⟩
          rw [hmd] at HK
          have htm : z.tmod (nn : Int) = (md : Int) := by rw [Int.tmod_eq_emod_of_nonneg hz.1]; exact hmd
          have hnz : ¬ (nn : Int) = 0 := by have := PZ.out; omega
          have hwz : IntKind.wrap .i64 z = z := by rw [IntKind.wrap_i64]; omega
          have hwd : IntKind.wrap .i64 (md : Int) = (md : Int) := by rw [IntKind.wrap_i64]; omega
          have lcw := cell_later HBr lc
          have hb3 : Hid (Below wr.heap.size wr (wr.alloc (Obj.cells #[.int .i64 (md : Int)] 3))) := (Below.refl _ wr).alloc (Nat.le_refl _) _
          have hO3 : Hid (OwnInts w5.heap.size (wr.alloc (Obj.cells #[.int .i64 (md : Int)] 3)) (.slice po k pc) done) := ownsRow_below hO.out hb3.out
          have hB3 : Hid (Below w5.heap.size w5 (wr.alloc (Obj.cells #[.int .i64 (md : Int)] 3))) := hB.out.trans (hb3.out.mono hzr)
          have hMs : w5.heap.size ≤ (wr.alloc (Obj.cells #[.int .i64 (md : Int)] 3)).heap.size := Nat.le_trans hzr hb3.out.size
          clear hO hb3 lc
          go_upto_region 25 with (at_builtin; refine wpList_append_oint rfl _ _ rfl w5.heap.size _ done rfl hO3.out wr.heap.size 1 (md : Int) rfl (by simp [go_sem]) (by rw [HQ.out]; omega) hMs ?_; intro ga cap w4 ho4 hg4)
          have hO4 : Hid (OwnInts w5.heap.size w4 (.slice (some ⟨ga, 0, none⟩) (k + 1) cap) ((l.take (k + 1)).map (fun z => z % (nn : Int)))) := by
            show OwnInts _ _ _ _
            rw [HK.out]
            have := ho4
            rw [HQ.out] at this
            exact this
          have hB4 : Hid (Below w5.heap.size w5 w4) := hB3.out.grown hg4 hMs (fun q hq => (hO3.out.lt q hq).1)
          clear hO3 hB3 ho4 hg4 HK hMs lcw
          go_wp2_with fail
          go_roundw
          case rel => exact ⟨k + 1, some ⟨ga, 0, none⟩, cap, by omega, by rw [HQ.out], by go_num, hB4, hO4⟩
          case measure => simp [intOf]; omega
        · obtain rfl : k = l.length := by omega
          have hki : ¬ (l.length : Int) < (l.length : Int) := by omega
          rw [List.take_length] at hO
          have HP : Hid (∀ s ∈ l.map (fun z => z % (nn : Int)), 0 ≤ s ∧ s < (nn : Int)) := fun s hs => by
            have := PZ.out
            obtain ⟨z, _, rfl⟩ := List.mem_map.1 hs
            exact ⟨Int.emod_nonneg z (by omega), Int.emod_lt_of_pos z (by omega)⟩
          have hPl : Hid ((l.map (fun z => z % (nn : Int))).length = l.length) := by show _ = _; rw [List.length_map]
          generalize l.map (fun z => z % (nn : Int)) = P at *
          clear HQ HX HX0
          have hB6 : Hid (Below w5.heap.size w5 wr) := hB
          have hO6 : Hid (OwnInts w5.heap.size wr (.slice po l.length pc) P) := hO
          generalize wr = w6 at *
          clear hB hO HBr hzr
          go_wp2_with fail
          go_loopw [15, 17] (fun v iv wr => ∃ (k : Nat) (qo : Option Addr) (qc : Nat), k ≤ m.length ∧ v = .slice qo k qc ∧ iv = .int .i64 k ∧ Hid (Below w6.heap.size w6 wr) ∧ Hid (OwnInts w6.heap.size wr (.slice qo k qc) ((m.take k).map (fun z => z % (nn : Int))))) (fun _ iv _ => m.length - (intOf iv).toNat)
          case atStart => exact ⟨0, none, 0, Nat.zero_le _, rfl, rfl, Below.refl _ _, World.ownsRow_nil _ _ _ _⟩
          case round =>
            obtain ⟨k, qo, qc, hk, rfl, rfl, hB7, hO7⟩ := hrel
            have hz7 := hB7.out.size
            have hB : Hid (Below w5.heap.size w5 wr) := hB6.out.trans (hB7.out.mono hB6.out.size)
            have HBr := (HBB.out wr hB.out).1
            have hzr := (HBB.out wr hB.out).2.2
            have HQk : Hid (((m.take k).map (fun z => z % (nn : Int))).length = k) := by show _ = _; rw [List.length_map, List.length_take]; omega
            by_cases hkl : k < m.length
            · have hki : (k : Int) < (m.length : Int) := by omega
              obtain ⟨mb, lo, hao, _, _, lc⟩ := HY.out k (by simpa using hkl)
              subst hao
              rw [List.getElem_map] at lc
              have hz := HY0.out _ (List.getElem_mem hkl)
              have HK : Hid ((m.take (k + 1)).map (fun z => z % (nn : Int)) = (m.take k).map (fun z => z % (nn : Int)) ++ [m[k] % (nn : Int)]) := by show _ = _; rw [List.take_add_one, List.getElem?_eq_getElem hkl, List.map_append]; rfl
              generalize m[k] = z at *
              generalize (m.take k).map (fun z => z % (nn : Int)) = done at *
              obtain ⟨md, hmd, hmdl⟩ : ∃ md : Nat, z % (nn : Int) = (md : Int) ∧ md < nn := ⟨(z % (nn : Int)).toNat, by have := PZ.out; have := Int.emod_nonneg z (b := (nn : Int)) (by omega); omega, by have := PZ.out; have := Int.emod_lt_of_pos z (b := (nn : Int)) (by omega); have := Int.emod_nonneg z (b := (nn : Int)) (by omega); omega⟩
              rw [hmd] at HK
              have htm : z.tmod (nn : Int) = (md : Int) := by rw [Int.tmod_eq_emod_of_nonneg hz.1]; exact hmd
              have hnz : ¬ (nn : Int) = 0 := by have := PZ.out; omega
              have hwz : IntKind.wrap .i64 z = z := by rw [IntKind.wrap_i64]; omega
              have hwd : IntKind.wrap .i64 (md : Int) = (md : Int) := by rw [IntKind.wrap_i64]; omega
              have lcw := cell_later HBr lc
              have hb3 : Hid (Below wr.heap.size wr (wr.alloc (Obj.cells #[.int .i64 (md : Int)] 3))) := (Below.refl _ wr).alloc (Nat.le_refl _) _
              have hO3 : Hid (OwnInts w6.heap.size (wr.alloc (Obj.cells #[.int .i64 (md : Int)] 3)) (.slice qo k qc) done) := ownsRow_below hO7.out hb3.out
              have hB3 : Hid (Below w6.heap.size w6 (wr.alloc (Obj.cells #[.int .i64 (md : Int)] 3))) := hB7.out.trans (hb3.out.mono hz7)
              have hMs : w6.heap.size ≤ (wr.alloc (Obj.cells #[.int .i64 (md : Int)] 3)).heap.size := Nat.le_trans hz7 hb3.out.size
              clear hO7 hb3 lc hB hB7
              go_upto_region 29 with (at_builtin; refine wpList_append_oint rfl _ _ rfl w6.heap.size _ done rfl hO3.out wr.heap.size 1 (md : Int) rfl (by simp [go_sem]) (by rw [HQk.out]; omega) hMs ?_; intro ga cap w4 ho4 hg4)
              have hO4 : Hid (OwnInts w6.heap.size w4 (.slice (some ⟨ga, 0, none⟩) (k + 1) cap) ((m.take (k + 1)).map (fun z => z % (nn : Int)))) := by
                show OwnInts _ _ _ _
                rw [HK.out]
                have := ho4
                rw [HQk.out] at this
                exact this
              have hB4 : Hid (Below w6.heap.size w6 w4) := hB3.out.grown hg4 hMs (fun q hq => (hO3.out.lt q hq).1)
              clear hO3 hB3 ho4 hg4 HK hMs lcw
              go_wp2_with fail
              go_roundw
              case rel => exact ⟨k + 1, some ⟨ga, 0, none⟩, cap, by omega, by rw [HQk.out], by go_num, hB4, hO4⟩
              case measure => simp [intOf]; omega
            · obtain rfl : k = m.length := by omega
              have hki : ¬ (m.length : Int) < (m.length : Int) := by omega
              rw [List.take_length] at hO7
              have HQs : Hid (∀ s ∈ m.map (fun z => z % (nn : Int)), 0 ≤ s ∧ s < (nn : Int)) := fun s hs => by
                have := PZ.out
                obtain ⟨z, _, rfl⟩ := List.mem_map.1 hs
                exact ⟨Int.emod_nonneg z (by omega), Int.emod_lt_of_pos z (by omega)⟩
              have hQl : Hid ((m.map (fun z => z % (nn : Int))).length = m.length) := by show _ = _; rw [List.length_map]
              generalize m.map (fun z => z % (nn : Int)) = Q at *
              clear HQk HY HY0
              obtain ⟨po2, pc2, e2, PI6, hpc, _⟩ := OwnInts.read hO6.out
              obtain ⟨rfl, rfl⟩ : po = po2 ∧ pc = pc2 := by
                simp only [Value.slice.injEq] at e2
                exact ⟨e2.1, e2.2.2⟩
              obtain ⟨qo2, qc2, e3, QI7, hqc, _⟩ := OwnInts.read hO7.out
              obtain ⟨rfl, rfl⟩ : qo = qo2 ∧ qc = qc2 := by
                simp only [Value.slice.injEq] at e3
                exact ⟨e3.1, e3.2.2⟩
              have hPok : Fi.okG g P = true := by unfold Fi.okG; rw [HGD0.out, hnn, Bool.true_and]; exact Fi.syms_iff.2 HP.out
              have hQok : Fi.okG g Q = true := by unfold Fi.okG; rw [HGD0.out, hnn, Bool.true_and]; exact Fi.syms_iff.2 HQs.out
              have E2 : Hid _ := Fi.ofG_two hPok hQok
              have PI : Hid (IntsAt wr.heap.size wr po P) := (IntsAt.later PI6 hB7.out).size
              have QI : Hid (IntsAt wr.heap.size wr qo Q) := QI7
              have hPl4 : P.length ≤ 20 := by rw [hPl.out]; exact hll
              have hQl4 : Q.length ≤ 20 := by rw [hQl.out]; exact hml
              have HOP : Hid (∀ W : World, Below wr.heap.size wr W → Calls Tryz.prog 11 #[.agg #[.slice ta g.terms.length tc, .slice na g.names.length nc, .slice ra g.rules.length rc], .slice po l.length pc] W fun e w' => ∃ xo xc, e = .returned (.tuple #[.slice xo (Fi.ofG g P).length xc, .int .i64 0]) ∧ Hid (IntsAt w'.heap.size w' xo (Fi.ofG g P)) ∧ Hid (Below W.heap.size W w')) := fun W hW => by
                have := HOF.out W P po pc (HBr.trans (hW.mono HBr.size)) (PI.out.later hW).size (by omega) hpc hPok
                rw [hPl.out] at this; exact this
              have HOQ : Hid (∀ W : World, Below wr.heap.size wr W → Calls Tryz.prog 11 #[.agg #[.slice ta g.terms.length tc, .slice na g.names.length nc, .slice ra g.rules.length rc], .slice qo m.length qc] W fun e w' => ∃ xo xc, e = .returned (.tuple #[.slice xo (Fi.ofG g Q).length xc, .int .i64 0]) ∧ Hid (IntsAt w'.heap.size w' xo (Fi.ofG g Q)) ∧ Hid (Below W.heap.size W w')) := fun W hW => by
                have := HOF.out W Q qo qc (HBr.trans (hW.mono HBr.size)) (QI.out.later hW).size (by omega) hqc hQok
                rw [hQl.out] at this; exact this
              have HG7 : Hid (∀ W : World, Below wr.heap.size wr W → W.heap[w.heap.size]? = some (.cells #[.slice ta g.terms.length tc, .slice na g.names.length nc, .slice ra g.rules.length rc] 25 (0, 0)) ∧ Below w.heap.size w W) := fun W hW => ⟨(HBB.out W (hB.out.trans (hW.mono hzr))).2.1, HBr.trans (hW.mono HBr.size)⟩
              clear hO6 hO7 e2 e3 PI6 QI7 hB6 hB7 hB HBB hz7 hzr
              generalize wr = w8 at *
              have hb0 : Hid (Below w8.heap.size w8 w8) := Below.refl _ _
              obtain ⟨g0, g1, g2, _⟩ := cells_three_z (HG7.out _ hb0.out).1
              have hgz := (Array.getElem?_eq_some_iff.1 (HG7.out _ hb0.out).1).1
              go_wp2_with (go_at_call 11; fail)
              refine Calls.mono (HOP.out _ hb0.out) ?_
              rintro e w9 ⟨xo1, xc1, rfl, hx1, hb9⟩
              clear g0 g1 g2 hgz
              obtain ⟨g0, g1, g2, _⟩ := cells_three_z (HG7.out _ hb9.out).1
              have hgz := (Array.getElem?_eq_some_iff.1 (HG7.out _ hb9.out).1).1
              go_wp2_with (go_at_call 11; fail)
              refine Calls.mono (HOQ.out _ hb9.out) ?_
              rintro e w10 ⟨yo1, yc1, rfl, hy1, hb10⟩
              clear g0 g1 g2 hgz
              have hb11 : Hid (Below w8.heap.size w8 w10) := hb9.out.trans (hb10.out.mono hb9.out.size)
              have hx2 : Hid (IntsAt w10.heap.size w10 xo1 (Fi.ofG g P)) := (hx1.out.later hb10.out).size
              obtain ⟨g0, g1, g2, _⟩ := cells_three_z (HG7.out _ hb11.out).1
              have hgz := (Array.getElem?_eq_some_iff.1 (HG7.out _ hb11.out).1).1
              clear hx1 hb9 hb10
              go_upto_region 33 with fail
              clear g0 g1 g2 hgz
              have HCG : Hid (w10.cell? ⟨w.heap.size, 0, none⟩ = some (.slice ta g.terms.length tc) ∧ w10.cell? ⟨w.heap.size, 1, none⟩ = some (.slice na g.names.length nc) ∧ w10.cell? ⟨w.heap.size, 2, none⟩ = some (.slice ra g.rules.length rc)) := by
                have h := cells_three_z (HG7.out _ hb11.out).1
                exact ⟨h.1, h.2.1, h.2.2.1⟩
              have HP4 : Hid (P.length ≤ 2000) := by show _ ≤ _; omega
              have HPQ : Hid (P.length + Q.length ≤ 2000) := by show _ ≤ _; omega
              have HPI : Hid (∀ W : World, Below w10.heap.size w10 W → IntsAt W.heap.size W po P) := fun W hW => (PI.out.later (hb11.out.trans (hW.mono hb11.out.size))).size
              have HQI : Hid (∀ W : World, Below w10.heap.size w10 W → IntsAt W.heap.size W qo Q) := fun W hW => (QI.out.later (hb11.out.trans (hW.mono hb11.out.size))).size
              have HZ : Hid (∀ (W : World) (zo : Option Addr) (zc : Nat), Below w10.heap.size w10 W → OwnInts w10.heap.size W (.slice zo (P ++ Q).length zc) (P ++ Q) → Calls Tryz.prog 11 #[.agg #[.slice ta g.terms.length tc, .slice na g.names.length nc, .slice ra g.rules.length rc], .slice zo (P ++ Q).length zc] W fun e w' => ∃ xo xc, e = .returned (.tuple #[.slice xo (Fi.ofG g (P ++ Q)).length xc, .int .i64 0]) ∧ Hid (IntsAt w'.heap.size w' xo (Fi.ofG g (P ++ Q))) ∧ Hid (Below W.heap.size W w')) := fun W zo zc hW ho => by
                obtain ⟨zo2, zc2, e4, hz4, hzc, _⟩ := OwnInts.read ho
                obtain ⟨rfl, rfl⟩ : zo = zo2 ∧ zc = zc2 := by
                  simp only [Value.slice.injEq] at e4
                  exact ⟨e4.1, e4.2.2⟩
                exact HOF.out W (P ++ Q) zo zc ((HG7.out _ hb11.out).2.trans (hW.mono (HG7.out _ hb11.out).2.size)) hz4 (by rw [List.length_append]; omega) hzc (Fi.okG_two hPok hQok)
              clear HOP HOQ PI QI
              have HC : Hid (∀ w1 : World, AppR w10.heap.size P Q w10.drew w1 → Below w10.heap.size w10 w1 ∧ w1.cell? ⟨w.heap.size, 0, none⟩ = some (.slice ta g.terms.length tc) ∧ w1.cell? ⟨w.heap.size, 1, none⟩ = some (.slice na g.names.length nc) ∧ w1.cell? ⟨w.heap.size, 2, none⟩ = some (.slice ra g.rules.length rc)) := fun w1 hL => by
                have hb : Below w10.heap.size w10 w1 := ⟨hL.below.os, hL.below.tape, hL.below.output, hL.below.size, hL.below.block⟩
                have h := cells_three_z (HG7.out w1 (hb11.out.trans (hb.mono hb11.out.size))).1
                exact ⟨hb, h.1, h.2.1, h.2.2.1⟩
              refine wp_region_split3 8 (by decide) (by kernel_rfl) (by kernel_rfl) ?b1 ?b2 ?b3
              case b1 =>
                simp only [addEdge]
                refine wpAny_facts (AppR w10.heap.size P Q) [.val (.agg #[.slice ta g.terms.length tc, .slice na g.names.length nc, .slice ra g.rules.length rc]), .fact (Empty w10.heap.size 3), .val (.slice po l.length pc), .fact (fun v w' => OwnInts w10.heap.size w' v P), .val (.slice qo m.length qc), .fact (fun v w' => OwnInts w10.heap.size w' v (P ++ Q))] [] [_, _, _, _, _, _] (by kernel_rfl) rfl AppR.refl (fun _ _ _ => AppR.trans) ?kept ?walk
                case kept => exact ⟨fun v w1 w2 hR ⟨b, e, h1, h2⟩ => ⟨b, e, h1, hR.emp b h2⟩, fun v w1 w2 hR h => hR.one v h, fun v w1 w2 hR h => hR.two v h, trivial⟩
                case walk =>
                  refine wpFactsR_val (by rfl) (fun w1 hL hd K hK => ?_) ?_
                  · obtain ⟨_, c0, c1, c2⟩ := HC.out w1 hL
                    go_simp
                    exact hK _ (AppR.refl _)
                  refine wpFactsR_norm (by simp only [Act.put, List.setIfInBounds_toArray, List.set_cons_zero, List.set_cons_succ]; rfl) (by simp only [List.nil_append]; rfl) ?_
                  refine wpFactsR_fact (by rfl) (fun w1 hL hd K hK => ?_) (fun v1 => ?_)
                  · have hM := (HC.out w1 hL).1.size
                    go_simp
                    exact hK _ _ (AppR.lat (Below.alloc (Below.refl _ _) (Nat.le_refl _) _) hM) ⟨_, rfl, hM, heap_alloc_new _ _⟩
                  refine wpFactsR_norm (by simp only [Act.put, List.setIfInBounds_toArray, List.set_cons_zero, List.set_cons_succ]; rfl) (by simp only [List.cons_append, List.nil_append]; rfl) ?_
                  refine wpFactsR_val (by rfl) (fun w1 hL hd K hK => ?_) ?_
                  · go_simp
                    exact hK _ (AppR.refl _)
                  refine wpFactsR_norm (by simp only [Act.put, List.setIfInBounds_toArray, List.set_cons_zero, List.set_cons_succ]; rfl) (by simp only [List.cons_append, List.nil_append]; rfl) ?_
                  refine wpFactsR_fact (by rfl) (fun w1 hL hd K hK => ?_) (fun v3 => ?_)
                  · have hE : Empty w10.heap.size 3 v1 w1 := hd.1
                    have hM := (HC.out w1 hL).1
                    refine wp_copy_ints (.tmp 159) (.tmp 160) rfl w10.heap.size _ rfl hE po pc P (by rw [hPl.out]; rfl) (HPI.out _ hM) (by have := HP4.out; omega) ?_
                    intro v3 w3' hL3 ho3 _
                    exact hK _ _ (AppR.lat hL3 hM.size) ho3
                  refine wpFactsR_norm (by simp only [Act.put, List.setIfInBounds_toArray, List.set_cons_zero, List.set_cons_succ]; rfl) (by simp only [List.cons_append, List.nil_append]; rfl) ?_
                  refine wpFactsR_val (by rfl) (fun w1 hL hd K hK => ?_) ?_
                  · go_simp
                    exact hK _ (AppR.refl _)
                  refine wpFactsR_norm (by simp only [Act.put, List.setIfInBounds_toArray, List.set_cons_zero, List.set_cons_succ]; rfl) (by simp only [List.cons_append, List.nil_append]; rfl) ?_
                  refine wpFactsR_fact (by rfl) (fun w1 hL hd K hK => ?_) (fun v5 => ?_)
                  · have ho3 : OwnInts w10.heap.size w1 v3 P := hd.1
                    have hM := (HC.out w1 hL).1
                    refine wp_append_two (.tmp 161) (.tmp 162) rfl w10.heap.size v3 P rfl ho3 qo qc Q (by rw [hQl.out]; rfl) (HQI.out _ hM) HPQ.out hM.size ?_
                    intro v' w' ho hA
                    exact hK _ _ hA ho
                  refine wpFactsR_norm (by simp only [Act.put, List.setIfInBounds_toArray, List.set_cons_zero, List.set_cons_succ]; rfl) (by simp only [List.cons_append, List.nil_append]; rfl) ?_
                  intro w1 hL ha
                  have ho5 : OwnInts w10.heap.size w1 v5 (P ++ Q) := allHold_get 5 ha rfl rfl
                  clear ha
                  obtain ⟨zo, zc, rfl⟩ := OwnInts.shape ho5
                  have HO5 : Hid _ := ho5
                  have HB5 : Hid (Below w10.heap.size w10 w1) := (HC.out w1 hL).1
                  have HZ5 : Hid _ := HZ.out w1 zo zc HB5.out HO5.out
                  clear ho5 hL HC HZ HO5
                  obtain ⟨R, hR⟩ : ∃ R, P ++ Q = R := ⟨_, rfl⟩
                  rw [hR] at HZ5 E2 ⊢
                  clear hR
                  simp only [List.length_cons, List.length_nil, Nat.reduceAdd]
                  refine wpList_wanted (by rfl) fun K hK => ?_
                  go_simp
                  refine Calls.mono HZ5.out ?_
                  rintro e w5' ⟨zo1, zc1, rfl, hz1, hb5⟩
                  refine hK _ _ ?_
                  have HB6 : Hid (Below w10.heap.size w10 w5') := HB5.out.trans (hb5.out.mono HB5.out.size)
                  clear hb5 HB5 HZ5
                  have GX : Hid (w5'.heap[w.heap.size]? = some (.cells #[.slice ta g.terms.length tc, .slice na g.names.length nc, .slice ra g.rules.length rc] 25 (0, 0)) ∧ Below w.heap.size w w5') := HG7.out w5' (hb11.out.trans (HB6.out.mono hb11.out.size))
                  obtain ⟨g0, g1, g2, _⟩ := cells_three_z GX.out.1
                  have hgz := (Array.getElem?_eq_some_iff.1 GX.out.1).1
                  have hmT2 := make_boolsN g.terms.length (by omega)
                  go_upto_region 35 with fail
                  clear hmT2
                  clear g0 g1 g2 hgz
                  have hH : Hid ((w5'.alloc (.cells (Array.replicate g.terms.length (Value.bool false)) 4)).heap[w5'.heap.size]? = some (.cells ((List.replicate g.terms.length false).map Value.bool).toArray 4 (0, 0))) := by
                    show _ = _; rw [heap_alloc_new]; simp
                  have hbA : Hid (Below w5'.heap.size w5' (w5'.alloc (.cells (Array.replicate g.terms.length (Value.bool false)) 4))) := (Below.refl _ w5').alloc (Nat.le_refl _) _
                  have HB7 : Hid (Below w10.heap.size w10 (w5'.alloc (.cells (Array.replicate g.terms.length (Value.bool false)) 4))) := HB6.out.trans (hbA.out.mono HB6.out.size)
                  have BW7 : Hid (Below w.heap.size w (w5'.alloc (.cells (Array.replicate g.terms.length (Value.bool false)) 4))) := GX.out.2.trans (hbA.out.mono GX.out.2.size)
                  have G7 : Hid ((w5'.alloc (.cells (Array.replicate g.terms.length (Value.bool false)) 4)).heap[w.heap.size]? = some (.cells #[.slice ta g.terms.length tc, .slice na g.names.length nc, .slice ra g.rules.length rc] 25 (0, 0))) := (hbA.out.block _ (Array.getElem?_eq_some_iff.1 GX.out.1).1).trans GX.out.1
                  have Z7 : Hid (IntsAt (w5'.alloc (.cells (Array.replicate g.terms.length (Value.bool false)) 4)).heap.size (w5'.alloc (.cells (Array.replicate g.terms.length (Value.bool false)) 4)) zo1 (Fi.ofG g R)) := (IntsAt.later hz1.out hbA.out).size
                  have hsz5 : w10.heap.size ≤ w5'.heap.size := HB6.out.size
                  have hGlt : w.heap.size < w5'.heap.size := (Array.getElem?_eq_some_iff.1 GX.out.1).1
                  have ZLT : Hid (IntsAt w5'.heap.size w5' zo1 (Fi.ofG g R)) := hz1
                  have ZA : Hid (IntsAt w5'.heap.size (w5'.alloc (.cells (Array.replicate g.terms.length (Value.bool false)) 4)) zo1 (Fi.ofG g R)) := IntsAt.later ZLT.out hbA.out
                  clear hz1 hbA HB6 GX Z7
                  generalize (w5'.alloc (.cells (Array.replicate g.terms.length (Value.bool false)) 4)) = W6 at *
                  have BLK : Hid (∀ W : World, ButL [w5'.heap.size] W6 W → Below w10.heap.size w10 W ∧ Below w.heap.size w W ∧ W.heap[w.heap.size]? = some (.cells #[.slice ta g.terms.length tc, .slice na g.names.length nc, .slice ra g.rules.length rc] 25 (0, 0)) ∧ IntsAt W.heap.size W zo1 (Fi.ofG g R) ∧ IntsAt W.heap.size W yo1 (Fi.ofG g Q)) := fun W hW => by
                    have b1 : Below w10.heap.size w10 W := HB7.out.trans (hW.below (fun q hq => by rw [List.mem_singleton] at hq; omega) HB7.out.size)
                    refine ⟨b1, BW7.out.trans (hW.below (fun q hq => by rw [List.mem_singleton] at hq; omega) BW7.out.size), (hW.block _ (Array.getElem?_eq_some_iff.1 G7.out).1 (by rw [List.mem_singleton]; omega)).trans G7.out, ?_, IntsAt.size (IntsAt.later hy1.out b1)⟩
                    exact IntsAt.size (IntsAt.keep ZA.out hW.size fun k o y hk hc => hW.block k (World.block_lt_of_cell? _ _ hc) (by rw [List.mem_singleton]; omega))
                  have LP : (Fi.ofG g P).length ≤ 4000 := Nat.le_trans (Fi.ofG_short g P) (by omega)
                  have LQ : (Fi.ofG g Q).length ≤ 4000 := Nat.le_trans (Fi.ofG_short g Q) (by omega)
                  have HMK : Hid _ := mark_any (List.replicate g.terms.length false) g.terms.length w5'.heap.size (Fi.ofG g P) xo1 xc1 W6 (by simp) hH.out (IntsAt.size (IntsAt.later hx2.out HB7.out)) Fi.ofG_in LP
                  obtain ⟨bs, hbs⟩ : ∃ bs, (Fi.ofG g P).foldl Nl.tell (List.replicate g.terms.length false) = bs := ⟨_, rfl⟩
                  have hbl : bs.length = g.terms.length := by rw [← hbs, Fi.foldTell_len]; simp
                  have HBL : Hid (bs.length = g.terms.length) := hbl
                  rw [hbs] at HMK E2
                  obtain ⟨g0, g1, g2, _⟩ := cells_three_z G7.out
                  have hgz := (Array.getElem?_eq_some_iff.1 G7.out).1
                  clear hbs hH hbl hx2 HB7 ZA ZLT
                  go_wp2_with (go_at_call 12; fail)
                  clear g0 g1 g2 hgz
                  refine Calls.mono HMK.out ?_
                  rintro e W7 ⟨rfl, hm7, hb7⟩
                  obtain ⟨b7, bw7, gg7, zz7, yy7⟩ := BLK.out W7 hb7.out
                  have HA7 : Hid (∀ r : Bool, Nl.all g P = r → Calls Tryz.prog 14 #[.agg #[.slice ta g.terms.length tc, .slice na g.names.length nc, .slice ra g.rules.length rc], .slice po l.length pc] W7 fun e w' => e = .returned (.bool r) ∧ Below W7.heap.size W7 w') := fun r hr => by
                    have := HAL.out W7 P po pc r bw7 (HPI.out W7 b7) (by have := HP4.out; omega) hr
                    rw [hPl.out] at this; exact this
                  have GG7 : Hid (W7.heap[w.heap.size]? = some (.cells #[.slice ta g.terms.length tc, .slice na g.names.length nc, .slice ra g.rules.length rc] 25 (0, 0))) := gg7
                  clear b7 bw7 zz7 yy7 gg7 HMK
                  obtain ⟨g0, g1, g2, _⟩ := cells_three_z GG7.out
                  have hgz := (Array.getElem?_eq_some_iff.1 GG7.out).1
                  cases hall : Nl.all g P
                  · have HA1 : Hid _ := HA7.out false hall
                    rw [hall, if_neg (by simp)] at E2
                    clear HA7 hall
                    go_wp2_with (go_at_call 14; fail)
                    clear g0 g1 g2 hgz
                    refine Calls.mono HA1.out ?_
                    rintro e W8 ⟨rfl, hb8⟩
                    obtain ⟨_, bw7, _, zz7, _⟩ := BLK.out W7 hb7.out
                    have BW8 : Hid (Below w.heap.size w W8) := bw7.trans (hb8.mono bw7.size)
                    have Z8 : Hid (IntsAt W8.heap.size W8 zo1 (Fi.ofG g R)) := IntsAt.size (IntsAt.later zz7 hb8)
                    have M8 : Hid (W8.heap[w5'.heap.size]? = some (.cells (bs.map Value.bool).toArray 4 (0, 0))) := (hb8.block _ (Array.getElem?_eq_some_iff.1 hm7.out).1).trans hm7.out
                    have SM0 := same_any bs (Fi.ofG g R) (some ⟨w5'.heap.size, 0, none⟩) zo1 g.terms.length zc1 W8 (bools_block M8.out) Z8.out E2.out (by have := HBL.out; omega)
                    rw [HBL.out] at SM0
                    have SM : Hid _ := SM0
                    clear SM0 bw7 zz7 hb8 HA1
                    go_wp2_with (go_at_call 13; fail)
                    refine Calls.mono SM.out ?_
                    rintro e W9 ⟨rfl, e9⟩
                    subst W9
                    go_wp2_with (go_at_call 9; refine Calls.mono (fwakes_any _) ?_; rintro e wz ⟨rfl, hbz⟩)
                    go_ret
                    exact ⟨rfl, BW8.out.trans (hbz.mono BW8.out.size)⟩
                  · have HA1 : Hid _ := HA7.out true hall
                    rw [hall, if_pos rfl] at E2
                    clear HA7 hall
                    go_wp2_with (go_at_call 14; fail)
                    clear g0 g1 g2 hgz
                    refine Calls.mono HA1.out ?_
                    rintro e W8 ⟨rfl, hb8⟩
                    obtain ⟨_, bw7, _, zz7, yy7⟩ := BLK.out W7 hb7.out
                    have BW8 : Hid (Below w.heap.size w W8) := bw7.trans (hb8.mono bw7.size)
                    have M8 : Hid (W8.heap[w5'.heap.size]? = some (.cells (bs.map Value.bool).toArray 4 (0, 0))) := (hb8.block _ (Array.getElem?_eq_some_iff.1 hm7.out).1).trans hm7.out
                    have Z7 : Hid (∀ W : World, ButL [w5'.heap.size] W8 W → Below w.heap.size w W ∧ IntsAt W.heap.size W zo1 (Fi.ofG g R)) := fun W hW => by
                      have b8 : ButL [w5'.heap.size] W6 W := (hb7.out.trans (ButL.of hb8)).trans hW
                      obtain ⟨_, q1, _, q2, _⟩ := BLK.out W b8
                      exact ⟨q1, q2⟩
                    have HM2 : Hid _ := mark_any bs g.terms.length w5'.heap.size (Fi.ofG g Q) yo1 yc1 W8 HBL.out M8.out (IntsAt.size (IntsAt.later yy7 hb8)) Fi.ofG_in LQ
                    obtain ⟨cs, hcs⟩ : ∃ cs, (Fi.ofG g Q).foldl Nl.tell bs = cs := ⟨_, rfl⟩
                    have HCL : Hid (cs.length = g.terms.length) := by show _ = _; rw [← hcs, Fi.foldTell_len]; exact HBL.out
                    rw [hcs] at HM2 E2
                    clear hcs bw7 zz7 yy7 hb8 HA1 M8 BW8
                    go_wp2_with (go_at_call 12; fail)
                    refine Calls.mono HM2.out ?_
                    rintro e W9 ⟨rfl, hm9, hb9⟩
                    obtain ⟨bw9, zz9⟩ := Z7.out W9 hb9.out
                    have BW9 : Hid (Below w.heap.size w W9) := bw9
                    have SM0 := same_any cs (Fi.ofG g R) (some ⟨w5'.heap.size, 0, none⟩) zo1 g.terms.length zc1 W9 (bools_block hm9.out) zz9 E2.out (by have := HCL.out; omega)
                    rw [HCL.out] at SM0
                    have SM : Hid _ := SM0
                    clear SM0 bw9 zz9 HM2
                    go_wp2_with (go_at_call 13; fail)
                    refine Calls.mono SM.out ?_
                    rintro e W10 ⟨rfl, e9⟩
                    subst W10
                    go_wp2_with (go_at_call 9; refine Calls.mono (fwakes_any _) ?_; rintro e wz ⟨rfl, hbz⟩)
                    go_ret
                    exact ⟨rfl, BW9.out.trans (hbz.mono BW9.out.size)⟩
              case b2 =>
                simp (config := { decide := true }) only [addEdge, swapAt, swp, mapOn, sig, List.map_cons, List.map_nil, List.map_toArray, List.push_toArray, List.cons_append, List.nil_append, if_true, if_false, Nat.reduceAdd]
                refine wpAny_facts (AppR w10.heap.size P Q) [.val (.agg #[.slice ta g.terms.length tc, .slice na g.names.length nc, .slice ra g.rules.length rc]), .fact (Empty w10.heap.size 3), .val (.slice po l.length pc), .fact (fun v w' => OwnInts w10.heap.size w' v P), .val (.slice qo m.length qc), .fact (fun v w' => OwnInts w10.heap.size w' v (P ++ Q))] [] [_, _, _, _, _, _] (by kernel_rfl) rfl AppR.refl (fun _ _ _ => AppR.trans) ?kept ?walk
                case kept => exact ⟨fun v w1 w2 hR ⟨b, e, h1, h2⟩ => ⟨b, e, h1, hR.emp b h2⟩, fun v w1 w2 hR h => hR.one v h, fun v w1 w2 hR h => hR.two v h, trivial⟩
                case walk =>
                  refine wpFactsR_val (by rfl) (fun w1 hL hd K hK => ?_) ?_
                  · obtain ⟨_, c0, c1, c2⟩ := HC.out w1 hL
                    go_simp
                    exact hK _ (AppR.refl _)
                  refine wpFactsR_norm (by simp only [Act.put, List.setIfInBounds_toArray, List.set_cons_zero, List.set_cons_succ]; rfl) (by simp only [List.nil_append]; rfl) ?_
                  refine wpFactsR_fact (by rfl) (fun w1 hL hd K hK => ?_) (fun v1 => ?_)
                  · have hM := (HC.out w1 hL).1.size
                    go_simp
                    exact hK _ _ (AppR.lat (Below.alloc (Below.refl _ _) (Nat.le_refl _) _) hM) ⟨_, rfl, hM, heap_alloc_new _ _⟩
                  refine wpFactsR_norm (by simp only [Act.put, List.setIfInBounds_toArray, List.set_cons_zero, List.set_cons_succ]; rfl) (by simp only [List.cons_append, List.nil_append]; rfl) ?_
                  refine wpFactsR_val (by rfl) (fun w1 hL hd K hK => ?_) ?_
                  · go_simp
                    exact hK _ (AppR.refl _)
                  refine wpFactsR_norm (by simp only [Act.put, List.setIfInBounds_toArray, List.set_cons_zero, List.set_cons_succ]; rfl) (by simp only [List.cons_append, List.nil_append]; rfl) ?_
                  refine wpFactsR_fact (by rfl) (fun w1 hL hd K hK => ?_) (fun v3 => ?_)
                  · have hE : Empty w10.heap.size 3 v1 w1 := hd.1
                    have hM := (HC.out w1 hL).1
                    refine wp_copy_ints (.tmp 159) (.tmp 160) rfl w10.heap.size _ rfl hE po pc P (by rw [hPl.out]; rfl) (HPI.out _ hM) (by have := HP4.out; omega) ?_
                    intro v3 w3' hL3 ho3 _
                    exact hK _ _ (AppR.lat hL3 hM.size) ho3
                  refine wpFactsR_norm (by simp only [Act.put, List.setIfInBounds_toArray, List.set_cons_zero, List.set_cons_succ]; rfl) (by simp only [List.cons_append, List.nil_append]; rfl) ?_
                  refine wpFactsR_val (by rfl) (fun w1 hL hd K hK => ?_) ?_
                  · go_simp
                    exact hK _ (AppR.refl _)
                  refine wpFactsR_norm (by simp only [Act.put, List.setIfInBounds_toArray, List.set_cons_zero, List.set_cons_succ]; rfl) (by simp only [List.cons_append, List.nil_append]; rfl) ?_
                  refine wpFactsR_fact (by rfl) (fun w1 hL hd K hK => ?_) (fun v5 => ?_)
                  · have ho3 : OwnInts w10.heap.size w1 v3 P := hd.1
                    have hM := (HC.out w1 hL).1
                    refine wp_append_two (.tmp 161) (.tmp 162) rfl w10.heap.size v3 P rfl ho3 qo qc Q (by rw [hQl.out]; rfl) (HQI.out _ hM) HPQ.out hM.size ?_
                    intro v' w' ho hA
                    exact hK _ _ hA ho
                  refine wpFactsR_norm (by simp only [Act.put, List.setIfInBounds_toArray, List.set_cons_zero, List.set_cons_succ]; rfl) (by simp only [List.cons_append, List.nil_append]; rfl) ?_
                  intro w1 hL ha
                  have ho5 : OwnInts w10.heap.size w1 v5 (P ++ Q) := allHold_get 5 ha rfl rfl
                  clear ha
                  obtain ⟨zo, zc, rfl⟩ := OwnInts.shape ho5
                  have HO5 : Hid _ := ho5
                  have HB5 : Hid (Below w10.heap.size w10 w1) := (HC.out w1 hL).1
                  have HZ5 : Hid _ := HZ.out w1 zo zc HB5.out HO5.out
                  clear ho5 hL HC HZ HO5
                  obtain ⟨R, hR⟩ : ∃ R, P ++ Q = R := ⟨_, rfl⟩
                  rw [hR] at HZ5 E2 ⊢
                  clear hR
                  simp only [List.length_cons, List.length_nil, Nat.reduceAdd]
                  refine wpList_wanted (by rfl) fun K hK => ?_
                  go_simp
                  refine Calls.mono HZ5.out ?_
                  rintro e w5' ⟨zo1, zc1, rfl, hz1, hb5⟩
                  refine hK _ _ ?_
                  have HB6 : Hid (Below w10.heap.size w10 w5') := HB5.out.trans (hb5.out.mono HB5.out.size)
                  clear hb5 HB5 HZ5
                  have GX : Hid (w5'.heap[w.heap.size]? = some (.cells #[.slice ta g.terms.length tc, .slice na g.names.length nc, .slice ra g.rules.length rc] 25 (0, 0)) ∧ Below w.heap.size w w5') := HG7.out w5' (hb11.out.trans (HB6.out.mono hb11.out.size))
                  obtain ⟨g0, g1, g2, _⟩ := cells_three_z GX.out.1
                  have hgz := (Array.getElem?_eq_some_iff.1 GX.out.1).1
                  have hmT2 := make_boolsN g.terms.length (by omega)
                  go_upto_region 35 with fail
                  clear hmT2
                  clear g0 g1 g2 hgz
                  have hH : Hid ((w5'.alloc (.cells (Array.replicate g.terms.length (Value.bool false)) 4)).heap[w5'.heap.size]? = some (.cells ((List.replicate g.terms.length false).map Value.bool).toArray 4 (0, 0))) := by
                    show _ = _; rw [heap_alloc_new]; simp
                  have hbA : Hid (Below w5'.heap.size w5' (w5'.alloc (.cells (Array.replicate g.terms.length (Value.bool false)) 4))) := (Below.refl _ w5').alloc (Nat.le_refl _) _
                  have HB7 : Hid (Below w10.heap.size w10 (w5'.alloc (.cells (Array.replicate g.terms.length (Value.bool false)) 4))) := HB6.out.trans (hbA.out.mono HB6.out.size)
                  have BW7 : Hid (Below w.heap.size w (w5'.alloc (.cells (Array.replicate g.terms.length (Value.bool false)) 4))) := GX.out.2.trans (hbA.out.mono GX.out.2.size)
                  have G7 : Hid ((w5'.alloc (.cells (Array.replicate g.terms.length (Value.bool false)) 4)).heap[w.heap.size]? = some (.cells #[.slice ta g.terms.length tc, .slice na g.names.length nc, .slice ra g.rules.length rc] 25 (0, 0))) := (hbA.out.block _ (Array.getElem?_eq_some_iff.1 GX.out.1).1).trans GX.out.1
                  have Z7 : Hid (IntsAt (w5'.alloc (.cells (Array.replicate g.terms.length (Value.bool false)) 4)).heap.size (w5'.alloc (.cells (Array.replicate g.terms.length (Value.bool false)) 4)) zo1 (Fi.ofG g R)) := (IntsAt.later hz1.out hbA.out).size
                  have hsz5 : w10.heap.size ≤ w5'.heap.size := HB6.out.size
                  have hGlt : w.heap.size < w5'.heap.size := (Array.getElem?_eq_some_iff.1 GX.out.1).1
                  have ZLT : Hid (IntsAt w5'.heap.size w5' zo1 (Fi.ofG g R)) := hz1
                  have ZA : Hid (IntsAt w5'.heap.size (w5'.alloc (.cells (Array.replicate g.terms.length (Value.bool false)) 4)) zo1 (Fi.ofG g R)) := IntsAt.later ZLT.out hbA.out
                  clear hz1 hbA HB6 GX Z7
                  generalize (w5'.alloc (.cells (Array.replicate g.terms.length (Value.bool false)) 4)) = W6 at *
                  have BLK : Hid (∀ W : World, ButL [w5'.heap.size] W6 W → Below w10.heap.size w10 W ∧ Below w.heap.size w W ∧ W.heap[w.heap.size]? = some (.cells #[.slice ta g.terms.length tc, .slice na g.names.length nc, .slice ra g.rules.length rc] 25 (0, 0)) ∧ IntsAt W.heap.size W zo1 (Fi.ofG g R) ∧ IntsAt W.heap.size W yo1 (Fi.ofG g Q)) := fun W hW => by
                    have b1 : Below w10.heap.size w10 W := HB7.out.trans (hW.below (fun q hq => by rw [List.mem_singleton] at hq; omega) HB7.out.size)
                    refine ⟨b1, BW7.out.trans (hW.below (fun q hq => by rw [List.mem_singleton] at hq; omega) BW7.out.size), (hW.block _ (Array.getElem?_eq_some_iff.1 G7.out).1 (by rw [List.mem_singleton]; omega)).trans G7.out, ?_, IntsAt.size (IntsAt.later hy1.out b1)⟩
                    exact IntsAt.size (IntsAt.keep ZA.out hW.size fun k o y hk hc => hW.block k (World.block_lt_of_cell? _ _ hc) (by rw [List.mem_singleton]; omega))
                  have LP : (Fi.ofG g P).length ≤ 4000 := Nat.le_trans (Fi.ofG_short g P) (by omega)
                  have LQ : (Fi.ofG g Q).length ≤ 4000 := Nat.le_trans (Fi.ofG_short g Q) (by omega)
                  have HMK : Hid _ := mark_any (List.replicate g.terms.length false) g.terms.length w5'.heap.size (Fi.ofG g P) xo1 xc1 W6 (by simp) hH.out (IntsAt.size (IntsAt.later hx2.out HB7.out)) Fi.ofG_in LP
                  obtain ⟨bs, hbs⟩ : ∃ bs, (Fi.ofG g P).foldl Nl.tell (List.replicate g.terms.length false) = bs := ⟨_, rfl⟩
                  have hbl : bs.length = g.terms.length := by rw [← hbs, Fi.foldTell_len]; simp
                  have HBL : Hid (bs.length = g.terms.length) := hbl
                  rw [hbs] at HMK E2
                  obtain ⟨g0, g1, g2, _⟩ := cells_three_z G7.out
                  have hgz := (Array.getElem?_eq_some_iff.1 G7.out).1
                  clear hbs hH hbl hx2 HB7 ZA ZLT
                  go_wp2_with (go_at_call 12; fail)
                  clear g0 g1 g2 hgz
                  refine Calls.mono HMK.out ?_
                  rintro e W7 ⟨rfl, hm7, hb7⟩
                  obtain ⟨b7, bw7, gg7, zz7, yy7⟩ := BLK.out W7 hb7.out
                  have HA7 : Hid (∀ r : Bool, Nl.all g P = r → Calls Tryz.prog 14 #[.agg #[.slice ta g.terms.length tc, .slice na g.names.length nc, .slice ra g.rules.length rc], .slice po l.length pc] W7 fun e w' => e = .returned (.bool r) ∧ Below W7.heap.size W7 w') := fun r hr => by
                    have := HAL.out W7 P po pc r bw7 (HPI.out W7 b7) (by have := HP4.out; omega) hr
                    rw [hPl.out] at this; exact this
                  have GG7 : Hid (W7.heap[w.heap.size]? = some (.cells #[.slice ta g.terms.length tc, .slice na g.names.length nc, .slice ra g.rules.length rc] 25 (0, 0))) := gg7
                  clear b7 bw7 zz7 yy7 gg7 HMK
                  obtain ⟨g0, g1, g2, _⟩ := cells_three_z GG7.out
                  have hgz := (Array.getElem?_eq_some_iff.1 GG7.out).1
                  cases hall : Nl.all g P
                  · have HA1 : Hid _ := HA7.out false hall
                    rw [hall, if_neg (by simp)] at E2
                    clear HA7 hall
                    go_wp2_with (go_at_call 14; fail)
                    clear g0 g1 g2 hgz
                    refine Calls.mono HA1.out ?_
                    rintro e W8 ⟨rfl, hb8⟩
                    obtain ⟨_, bw7, _, zz7, _⟩ := BLK.out W7 hb7.out
                    have BW8 : Hid (Below w.heap.size w W8) := bw7.trans (hb8.mono bw7.size)
                    have Z8 : Hid (IntsAt W8.heap.size W8 zo1 (Fi.ofG g R)) := IntsAt.size (IntsAt.later zz7 hb8)
                    have M8 : Hid (W8.heap[w5'.heap.size]? = some (.cells (bs.map Value.bool).toArray 4 (0, 0))) := (hb8.block _ (Array.getElem?_eq_some_iff.1 hm7.out).1).trans hm7.out
                    have SM0 := same_any bs (Fi.ofG g R) (some ⟨w5'.heap.size, 0, none⟩) zo1 g.terms.length zc1 W8 (bools_block M8.out) Z8.out E2.out (by have := HBL.out; omega)
                    rw [HBL.out] at SM0
                    have SM : Hid _ := SM0
                    clear SM0 bw7 zz7 hb8 HA1
                    go_wp2_with (go_at_call 13; fail)
                    refine Calls.mono SM.out ?_
                    rintro e W9 ⟨rfl, e9⟩
                    subst W9
                    go_wp2_with (go_at_call 9; refine Calls.mono (fwakes_any _) ?_; rintro e wz ⟨rfl, hbz⟩)
                    go_ret
                    exact ⟨rfl, BW8.out.trans (hbz.mono BW8.out.size)⟩
                  · have HA1 : Hid _ := HA7.out true hall
                    rw [hall, if_pos rfl] at E2
                    clear HA7 hall
                    go_wp2_with (go_at_call 14; fail)
                    clear g0 g1 g2 hgz
                    refine Calls.mono HA1.out ?_
                    rintro e W8 ⟨rfl, hb8⟩
                    obtain ⟨_, bw7, _, zz7, yy7⟩ := BLK.out W7 hb7.out
                    have BW8 : Hid (Below w.heap.size w W8) := bw7.trans (hb8.mono bw7.size)
                    have M8 : Hid (W8.heap[w5'.heap.size]? = some (.cells (bs.map Value.bool).toArray 4 (0, 0))) := (hb8.block _ (Array.getElem?_eq_some_iff.1 hm7.out).1).trans hm7.out
                    have Z7 : Hid (∀ W : World, ButL [w5'.heap.size] W8 W → Below w.heap.size w W ∧ IntsAt W.heap.size W zo1 (Fi.ofG g R)) := fun W hW => by
                      have b8 : ButL [w5'.heap.size] W6 W := (hb7.out.trans (ButL.of hb8)).trans hW
                      obtain ⟨_, q1, _, q2, _⟩ := BLK.out W b8
                      exact ⟨q1, q2⟩
                    have HM2 : Hid _ := mark_any bs g.terms.length w5'.heap.size (Fi.ofG g Q) yo1 yc1 W8 HBL.out M8.out (IntsAt.size (IntsAt.later yy7 hb8)) Fi.ofG_in LQ
                    obtain ⟨cs, hcs⟩ : ∃ cs, (Fi.ofG g Q).foldl Nl.tell bs = cs := ⟨_, rfl⟩
                    have HCL : Hid (cs.length = g.terms.length) := by show _ = _; rw [← hcs, Fi.foldTell_len]; exact HBL.out
                    rw [hcs] at HM2 E2
                    clear hcs bw7 zz7 yy7 hb8 HA1 M8 BW8
                    go_wp2_with (go_at_call 12; fail)
                    refine Calls.mono HM2.out ?_
                    rintro e W9 ⟨rfl, hm9, hb9⟩
                    obtain ⟨bw9, zz9⟩ := Z7.out W9 hb9.out
                    have BW9 : Hid (Below w.heap.size w W9) := bw9
                    have SM0 := same_any cs (Fi.ofG g R) (some ⟨w5'.heap.size, 0, none⟩) zo1 g.terms.length zc1 W9 (bools_block hm9.out) zz9 E2.out (by have := HCL.out; omega)
                    rw [HCL.out] at SM0
                    have SM : Hid _ := SM0
                    clear SM0 bw9 zz9 HM2
                    go_wp2_with (go_at_call 13; fail)
                    refine Calls.mono SM.out ?_
                    rintro e W10 ⟨rfl, e9⟩
                    subst W10
                    go_wp2_with (go_at_call 9; refine Calls.mono (fwakes_any _) ?_; rintro e wz ⟨rfl, hbz⟩)
                    go_ret
                    exact ⟨rfl, BW9.out.trans (hbz.mono BW9.out.size)⟩
              case b3 =>
                simp (config := { decide := true }) only [addEdge, swapAt, swp, mapOn, sig, List.map_cons, List.map_nil, List.map_toArray, List.push_toArray, List.cons_append, List.nil_append, if_true, if_false, Nat.reduceAdd]
                refine wpAny_facts (AppR w10.heap.size P Q) [.val (.agg #[.slice ta g.terms.length tc, .slice na g.names.length nc, .slice ra g.rules.length rc]), .fact (Empty w10.heap.size 3), .val (.slice po l.length pc), .fact (fun v w' => OwnInts w10.heap.size w' v P), .val (.slice qo m.length qc), .fact (fun v w' => OwnInts w10.heap.size w' v (P ++ Q))] [] [_, _, _, _, _, _] (by kernel_rfl) rfl AppR.refl (fun _ _ _ => AppR.trans) ?kept ?walk
                case kept => exact ⟨fun v w1 w2 hR ⟨b, e, h1, h2⟩ => ⟨b, e, h1, hR.emp b h2⟩, fun v w1 w2 hR h => hR.one v h, fun v w1 w2 hR h => hR.two v h, trivial⟩
                case walk =>
                  refine wpFactsR_val (by rfl) (fun w1 hL hd K hK => ?_) ?_
                  · obtain ⟨_, c0, c1, c2⟩ := HC.out w1 hL
                    go_simp
                    exact hK _ (AppR.refl _)
                  refine wpFactsR_norm (by simp only [Act.put, List.setIfInBounds_toArray, List.set_cons_zero, List.set_cons_succ]; rfl) (by simp only [List.nil_append]; rfl) ?_
                  refine wpFactsR_fact (by rfl) (fun w1 hL hd K hK => ?_) (fun v1 => ?_)
                  · have hM := (HC.out w1 hL).1.size
                    go_simp
                    exact hK _ _ (AppR.lat (Below.alloc (Below.refl _ _) (Nat.le_refl _) _) hM) ⟨_, rfl, hM, heap_alloc_new _ _⟩
                  refine wpFactsR_norm (by simp only [Act.put, List.setIfInBounds_toArray, List.set_cons_zero, List.set_cons_succ]; rfl) (by simp only [List.cons_append, List.nil_append]; rfl) ?_
                  refine wpFactsR_val (by rfl) (fun w1 hL hd K hK => ?_) ?_
                  · go_simp
                    exact hK _ (AppR.refl _)
                  refine wpFactsR_norm (by simp only [Act.put, List.setIfInBounds_toArray, List.set_cons_zero, List.set_cons_succ]; rfl) (by simp only [List.cons_append, List.nil_append]; rfl) ?_
                  refine wpFactsR_fact (by rfl) (fun w1 hL hd K hK => ?_) (fun v3 => ?_)
                  · have hE : Empty w10.heap.size 3 v1 w1 := hd.1
                    have hM := (HC.out w1 hL).1
                    refine wp_copy_ints (.tmp 159) (.tmp 160) rfl w10.heap.size _ rfl hE po pc P (by rw [hPl.out]; rfl) (HPI.out _ hM) (by have := HP4.out; omega) ?_
                    intro v3 w3' hL3 ho3 _
                    exact hK _ _ (AppR.lat hL3 hM.size) ho3
                  refine wpFactsR_norm (by simp only [Act.put, List.setIfInBounds_toArray, List.set_cons_zero, List.set_cons_succ]; rfl) (by simp only [List.cons_append, List.nil_append]; rfl) ?_
                  refine wpFactsR_val (by rfl) (fun w1 hL hd K hK => ?_) ?_
                  · go_simp
                    exact hK _ (AppR.refl _)
                  refine wpFactsR_norm (by simp only [Act.put, List.setIfInBounds_toArray, List.set_cons_zero, List.set_cons_succ]; rfl) (by simp only [List.cons_append, List.nil_append]; rfl) ?_
                  refine wpFactsR_fact (by rfl) (fun w1 hL hd K hK => ?_) (fun v5 => ?_)
                  · have ho3 : OwnInts w10.heap.size w1 v3 P := hd.1
                    have hM := (HC.out w1 hL).1
                    refine wp_append_two (.tmp 161) (.tmp 162) rfl w10.heap.size v3 P rfl ho3 qo qc Q (by rw [hQl.out]; rfl) (HQI.out _ hM) HPQ.out hM.size ?_
                    intro v' w' ho hA
                    exact hK _ _ hA ho
                  refine wpFactsR_norm (by simp only [Act.put, List.setIfInBounds_toArray, List.set_cons_zero, List.set_cons_succ]; rfl) (by simp only [List.cons_append, List.nil_append]; rfl) ?_
                  intro w1 hL ha
                  have ho5 : OwnInts w10.heap.size w1 v5 (P ++ Q) := allHold_get 5 ha rfl rfl
                  clear ha
                  obtain ⟨zo, zc, rfl⟩ := OwnInts.shape ho5
                  have HO5 : Hid _ := ho5
                  have HB5 : Hid (Below w10.heap.size w10 w1) := (HC.out w1 hL).1
                  have HZ5 : Hid _ := HZ.out w1 zo zc HB5.out HO5.out
                  clear ho5 hL HC HZ HO5
                  obtain ⟨R, hR⟩ : ∃ R, P ++ Q = R := ⟨_, rfl⟩
                  rw [hR] at HZ5 E2 ⊢
                  clear hR
                  simp only [List.length_cons, List.length_nil, Nat.reduceAdd]
                  refine wpList_wanted (by rfl) fun K hK => ?_
                  go_simp
                  refine Calls.mono HZ5.out ?_
                  rintro e w5' ⟨zo1, zc1, rfl, hz1, hb5⟩
                  refine hK _ _ ?_
                  have HB6 : Hid (Below w10.heap.size w10 w5') := HB5.out.trans (hb5.out.mono HB5.out.size)
                  clear hb5 HB5 HZ5
                  have GX : Hid (w5'.heap[w.heap.size]? = some (.cells #[.slice ta g.terms.length tc, .slice na g.names.length nc, .slice ra g.rules.length rc] 25 (0, 0)) ∧ Below w.heap.size w w5') := HG7.out w5' (hb11.out.trans (HB6.out.mono hb11.out.size))
                  obtain ⟨g0, g1, g2, _⟩ := cells_three_z GX.out.1
                  have hgz := (Array.getElem?_eq_some_iff.1 GX.out.1).1
                  have hmT2 := make_boolsN g.terms.length (by omega)
                  go_upto_region 35 with fail
                  clear hmT2
                  clear g0 g1 g2 hgz
                  have hH : Hid ((w5'.alloc (.cells (Array.replicate g.terms.length (Value.bool false)) 4)).heap[w5'.heap.size]? = some (.cells ((List.replicate g.terms.length false).map Value.bool).toArray 4 (0, 0))) := by
                    show _ = _; rw [heap_alloc_new]; simp
                  have hbA : Hid (Below w5'.heap.size w5' (w5'.alloc (.cells (Array.replicate g.terms.length (Value.bool false)) 4))) := (Below.refl _ w5').alloc (Nat.le_refl _) _
                  have HB7 : Hid (Below w10.heap.size w10 (w5'.alloc (.cells (Array.replicate g.terms.length (Value.bool false)) 4))) := HB6.out.trans (hbA.out.mono HB6.out.size)
                  have BW7 : Hid (Below w.heap.size w (w5'.alloc (.cells (Array.replicate g.terms.length (Value.bool false)) 4))) := GX.out.2.trans (hbA.out.mono GX.out.2.size)
                  have G7 : Hid ((w5'.alloc (.cells (Array.replicate g.terms.length (Value.bool false)) 4)).heap[w.heap.size]? = some (.cells #[.slice ta g.terms.length tc, .slice na g.names.length nc, .slice ra g.rules.length rc] 25 (0, 0))) := (hbA.out.block _ (Array.getElem?_eq_some_iff.1 GX.out.1).1).trans GX.out.1
                  have Z7 : Hid (IntsAt (w5'.alloc (.cells (Array.replicate g.terms.length (Value.bool false)) 4)).heap.size (w5'.alloc (.cells (Array.replicate g.terms.length (Value.bool false)) 4)) zo1 (Fi.ofG g R)) := (IntsAt.later hz1.out hbA.out).size
                  have hsz5 : w10.heap.size ≤ w5'.heap.size := HB6.out.size
                  have hGlt : w.heap.size < w5'.heap.size := (Array.getElem?_eq_some_iff.1 GX.out.1).1
                  have ZLT : Hid (IntsAt w5'.heap.size w5' zo1 (Fi.ofG g R)) := hz1
                  have ZA : Hid (IntsAt w5'.heap.size (w5'.alloc (.cells (Array.replicate g.terms.length (Value.bool false)) 4)) zo1 (Fi.ofG g R)) := IntsAt.later ZLT.out hbA.out
                  clear hz1 hbA HB6 GX Z7
                  generalize (w5'.alloc (.cells (Array.replicate g.terms.length (Value.bool false)) 4)) = W6 at *
                  have BLK : Hid (∀ W : World, ButL [w5'.heap.size] W6 W → Below w10.heap.size w10 W ∧ Below w.heap.size w W ∧ W.heap[w.heap.size]? = some (.cells #[.slice ta g.terms.length tc, .slice na g.names.length nc, .slice ra g.rules.length rc] 25 (0, 0)) ∧ IntsAt W.heap.size W zo1 (Fi.ofG g R) ∧ IntsAt W.heap.size W yo1 (Fi.ofG g Q)) := fun W hW => by
                    have b1 : Below w10.heap.size w10 W := HB7.out.trans (hW.below (fun q hq => by rw [List.mem_singleton] at hq; omega) HB7.out.size)
                    refine ⟨b1, BW7.out.trans (hW.below (fun q hq => by rw [List.mem_singleton] at hq; omega) BW7.out.size), (hW.block _ (Array.getElem?_eq_some_iff.1 G7.out).1 (by rw [List.mem_singleton]; omega)).trans G7.out, ?_, IntsAt.size (IntsAt.later hy1.out b1)⟩
                    exact IntsAt.size (IntsAt.keep ZA.out hW.size fun k o y hk hc => hW.block k (World.block_lt_of_cell? _ _ hc) (by rw [List.mem_singleton]; omega))
                  have LP : (Fi.ofG g P).length ≤ 4000 := Nat.le_trans (Fi.ofG_short g P) (by omega)
                  have LQ : (Fi.ofG g Q).length ≤ 4000 := Nat.le_trans (Fi.ofG_short g Q) (by omega)
                  have HMK : Hid _ := mark_any (List.replicate g.terms.length false) g.terms.length w5'.heap.size (Fi.ofG g P) xo1 xc1 W6 (by simp) hH.out (IntsAt.size (IntsAt.later hx2.out HB7.out)) Fi.ofG_in LP
                  obtain ⟨bs, hbs⟩ : ∃ bs, (Fi.ofG g P).foldl Nl.tell (List.replicate g.terms.length false) = bs := ⟨_, rfl⟩
                  have hbl : bs.length = g.terms.length := by rw [← hbs, Fi.foldTell_len]; simp
                  have HBL : Hid (bs.length = g.terms.length) := hbl
                  rw [hbs] at HMK E2
                  obtain ⟨g0, g1, g2, _⟩ := cells_three_z G7.out
                  have hgz := (Array.getElem?_eq_some_iff.1 G7.out).1
                  clear hbs hH hbl hx2 HB7 ZA ZLT
                  go_wp2_with (go_at_call 12; fail)
                  clear g0 g1 g2 hgz
                  refine Calls.mono HMK.out ?_
                  rintro e W7 ⟨rfl, hm7, hb7⟩
                  obtain ⟨b7, bw7, gg7, zz7, yy7⟩ := BLK.out W7 hb7.out
                  have HA7 : Hid (∀ r : Bool, Nl.all g P = r → Calls Tryz.prog 14 #[.agg #[.slice ta g.terms.length tc, .slice na g.names.length nc, .slice ra g.rules.length rc], .slice po l.length pc] W7 fun e w' => e = .returned (.bool r) ∧ Below W7.heap.size W7 w') := fun r hr => by
                    have := HAL.out W7 P po pc r bw7 (HPI.out W7 b7) (by have := HP4.out; omega) hr
                    rw [hPl.out] at this; exact this
                  have GG7 : Hid (W7.heap[w.heap.size]? = some (.cells #[.slice ta g.terms.length tc, .slice na g.names.length nc, .slice ra g.rules.length rc] 25 (0, 0))) := gg7
                  clear b7 bw7 zz7 yy7 gg7 HMK
                  obtain ⟨g0, g1, g2, _⟩ := cells_three_z GG7.out
                  have hgz := (Array.getElem?_eq_some_iff.1 GG7.out).1
                  cases hall : Nl.all g P
                  · have HA1 : Hid _ := HA7.out false hall
                    rw [hall, if_neg (by simp)] at E2
                    clear HA7 hall
                    go_wp2_with (go_at_call 14; fail)
                    clear g0 g1 g2 hgz
                    refine Calls.mono HA1.out ?_
                    rintro e W8 ⟨rfl, hb8⟩
                    obtain ⟨_, bw7, _, zz7, _⟩ := BLK.out W7 hb7.out
                    have BW8 : Hid (Below w.heap.size w W8) := bw7.trans (hb8.mono bw7.size)
                    have Z8 : Hid (IntsAt W8.heap.size W8 zo1 (Fi.ofG g R)) := IntsAt.size (IntsAt.later zz7 hb8)
                    have M8 : Hid (W8.heap[w5'.heap.size]? = some (.cells (bs.map Value.bool).toArray 4 (0, 0))) := (hb8.block _ (Array.getElem?_eq_some_iff.1 hm7.out).1).trans hm7.out
                    have SM0 := same_any bs (Fi.ofG g R) (some ⟨w5'.heap.size, 0, none⟩) zo1 g.terms.length zc1 W8 (bools_block M8.out) Z8.out E2.out (by have := HBL.out; omega)
                    rw [HBL.out] at SM0
                    have SM : Hid _ := SM0
                    clear SM0 bw7 zz7 hb8 HA1
                    go_wp2_with (go_at_call 13; fail)
                    refine Calls.mono SM.out ?_
                    rintro e W9 ⟨rfl, e9⟩
                    subst W9
                    go_wp2_with (go_at_call 9; refine Calls.mono (fwakes_any _) ?_; rintro e wz ⟨rfl, hbz⟩)
                    go_ret
                    exact ⟨rfl, BW8.out.trans (hbz.mono BW8.out.size)⟩
                  · have HA1 : Hid _ := HA7.out true hall
                    rw [hall, if_pos rfl] at E2
                    clear HA7 hall
                    go_wp2_with (go_at_call 14; fail)
                    clear g0 g1 g2 hgz
                    refine Calls.mono HA1.out ?_
                    rintro e W8 ⟨rfl, hb8⟩
                    obtain ⟨_, bw7, _, zz7, yy7⟩ := BLK.out W7 hb7.out
                    have BW8 : Hid (Below w.heap.size w W8) := bw7.trans (hb8.mono bw7.size)
                    have M8 : Hid (W8.heap[w5'.heap.size]? = some (.cells (bs.map Value.bool).toArray 4 (0, 0))) := (hb8.block _ (Array.getElem?_eq_some_iff.1 hm7.out).1).trans hm7.out
                    have Z7 : Hid (∀ W : World, ButL [w5'.heap.size] W8 W → Below w.heap.size w W ∧ IntsAt W.heap.size W zo1 (Fi.ofG g R)) := fun W hW => by
                      have b8 : ButL [w5'.heap.size] W6 W := (hb7.out.trans (ButL.of hb8)).trans hW
                      obtain ⟨_, q1, _, q2, _⟩ := BLK.out W b8
                      exact ⟨q1, q2⟩
                    have HM2 : Hid _ := mark_any bs g.terms.length w5'.heap.size (Fi.ofG g Q) yo1 yc1 W8 HBL.out M8.out (IntsAt.size (IntsAt.later yy7 hb8)) Fi.ofG_in LQ
                    obtain ⟨cs, hcs⟩ : ∃ cs, (Fi.ofG g Q).foldl Nl.tell bs = cs := ⟨_, rfl⟩
                    have HCL : Hid (cs.length = g.terms.length) := by show _ = _; rw [← hcs, Fi.foldTell_len]; exact HBL.out
                    rw [hcs] at HM2 E2
                    clear hcs bw7 zz7 yy7 hb8 HA1 M8 BW8
                    go_wp2_with (go_at_call 12; fail)
                    refine Calls.mono HM2.out ?_
                    rintro e W9 ⟨rfl, hm9, hb9⟩
                    obtain ⟨bw9, zz9⟩ := Z7.out W9 hb9.out
                    have BW9 : Hid (Below w.heap.size w W9) := bw9
                    have SM0 := same_any cs (Fi.ofG g R) (some ⟨w5'.heap.size, 0, none⟩) zo1 g.terms.length zc1 W9 (bools_block hm9.out) zz9 E2.out (by have := HCL.out; omega)
                    rw [HCL.out] at SM0
                    have SM : Hid _ := SM0
                    clear SM0 bw9 zz9 HM2
                    go_wp2_with (go_at_call 13; fail)
                    refine Calls.mono SM.out ?_
                    rintro e W10 ⟨rfl, e9⟩
                    subst W10
                    go_wp2_with (go_at_call 9; refine Calls.mono (fwakes_any _) ?_; rintro e wz ⟨rfl, hbz⟩)
                    go_ret
                    exact ⟨rfl, BW9.out.trans (hbz.mono BW9.out.size)⟩

theorem firstRules_walk (g : Gr.Gm) (A : GA) (ao : Option Addr) (len c : Nat) (zs : List Int) (bo : Option Addr) (len' d : Nat) (ys : List Int) (w : World) (h : GmAt w.heap.size w g A) (hr : ∀ r ∈ g.rules, r.2.length ≤ maxLen ∧ rlWf r) (hz : IsRow .u8 w ao len c zs) (hy : IsRow .u8 w bo len' d ys) :
    Calls Tryz.prog 3 #[.agg (gmCells g A), .slice ao len c, .slice bo len' d] w fun e w' => e = .returned (.bool true) ∧ Below w.heap.size w w' := by
  have hm : ∀ r ∈ g.rules, r.2.length ≤ maxLen := fun r h => (hr r h).1
  obtain ⟨xs, rfl, hx, _, hwf⟩ := hz.read
  obtain ⟨ms, rfl, hx2, _, hwf2⟩ := hy.read
  cases hl : Gr.large g
  · cases hg : Gr.good g
    · exact firstRules_out g A ao c xs bo d ms w h hm (.inr ⟨hl, .inl hg⟩)
    · by_cases h8 : 20 < xs.length
      · exact firstRules_out g A ao c xs bo d ms w h hm (.inr ⟨hl, .inr ⟨hg, .inl h8⟩⟩)
      · by_cases h60 : 20 < ms.length
        · exact firstRules_out g A ao c xs bo d ms w h hm (.inr ⟨hl, .inr ⟨hg, .inr ⟨by omega, h60⟩⟩⟩)
        · exact firstRules_in g A ao c xs bo d ms w h hm hl hg (by omega) (by omega) hx (fun x hx => u8_lt (hwf x hx)) hx2 (fun x hx => u8_lt (hwf2 x hx))
  · exact firstRules_out g A ao c xs bo d ms w h hm (.inl hl)
end Go.Proofs.YtfamhdpiomhjlaaGreat
