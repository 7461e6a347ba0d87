/-
  The law ShowLines, walked: it returns true, of every grammar.
-/
import Derived.Test.YtnphfhoknnnciaaShMath3
import Derived.Test.YtnphfhoknnnciaaShWakes
import Derived.Test.YtnphfhoknnnciaaGrKeeps
import Derived.Test.YtnphfhoknnnciaaGrOpen
import Derived.Test.YtnphfhoknnnciaaGrQuiet
import Derived.Deep.DeepCutAuto
import Derived.BigQuiet
namespace Go.Proofs.Ytnphfhoknnnciaa.Sh
open Go.Proofs.Ytnphfhoknnnciaa.Gr
theorem text_ok {g : Gm} {n : Int} {s : ByteArray} (h : good g = true) (h2 : (allT g g.rules).size ≤ 2000) (ht : text g = (n, s)) : n = 0 ∧ s = allT g g.rules := by
  unfold text at ht
  rw [if_neg (by rw [h]; simp), if_pos h2] at ht
  cases ht
  exact ⟨rfl, rfl⟩
theorem text_large {g : Gm} {n : Int} {s : ByteArray} (h : good g = true) (h2 : ¬ (allT g g.rules).size ≤ 2000) (ht : text g = (n, s)) : n = 14 := by
  unfold text at ht
  rw [if_neg (by rw [h]; simp), if_neg h2] at ht
  cases ht
  rfl
theorem text_zero {g : Gm} {s : ByteArray} (ht : text g = (0, s)) : good g = true ∧ (allT g g.rules).size ≤ 2000 := by
  unfold text at ht
  cases h : good g
  · rw [if_pos h] at ht; cases ht
  · rw [if_neg (by rw [h]; simp)] at ht
    by_cases h2 : (allT g g.rules).size ≤ 2000
    · exact ⟨rfl, h2⟩
    · rw [if_neg h2] at ht; cases ht
theorem text_none {g : Gm} {n : Int} {s : ByteArray} (h0 : n ≠ 0) (ht : text g = (n, s)) : s = ⟨#[]⟩ := by
  unfold text at ht
  split at ht
  · cases ht; rfl
  · split at ht
    · cases ht; exact absurd rfl h0
    · cases ht; rfl
end Go.Proofs.Ytnphfhoknnnciaa.Sh

namespace Go.Proofs.Ytnphfhoknnnciaa
open Go.RowKit

theorem blk_at {w w' : World} {b : Nat} {o : Obj} (h : w.heap[b]? = some o) (hb : Below w.heap.size w w') : w'.heap[b]? = some o := by
  rw [hb.block _ (Array.getElem?_eq_some_iff.1 h).1]; exact h

/-- where the law's walk through a text stands: within a line, or at the end -/
def LnAt (g : Gr.Gm) (q i : Nat) : Prop :=
  (Sh.allT g (g.rules.take q)).size ≤ i ∧ ((∃ hq : q < g.rules.length, i ≤ (Sh.allT g (g.rules.take q)).size + (Sh.lineT g g.rules[q]).size) ∨ (q = g.rules.length ∧ i = (Sh.allT g g.rules).size))

theorem LnAt.begin (g : Gr.Gm) (q : Nat) (hq : q ≤ g.rules.length) : LnAt g q (Sh.allT g (g.rules.take q)).size := by
  refine ⟨Nat.le_refl _, ?_⟩
  by_cases h : q < g.rules.length
  · exact .inl ⟨h, Nat.le_add_right _ _⟩
  · exact .inr ⟨by omega, by rw [List.take_of_length_le (by omega)]⟩

set_option maxRecDepth 100000 in
set_option maxHeartbeats 6400000 in
theorem showLines_good (g : Gr.Gm) (A : GA) (w : World) (h : GmAt w.heap.size w g A) (hm : ∀ r ∈ g.rules, r.2.length ≤ maxLen) (hl : Gr.large g = false) (hg : Gr.good g = true) (hz : (Sh.allT g g.rules).size ≤ 2000) :
    Calls Try.prog 7 #[.agg (gmCells g A)] w fun e w' => e = .returned (.bool true) ∧ Below w.heap.size w w' := by
  obtain ⟨ta, tc, na, nc, ra, rc⟩ := A
  have HG : Hid (GmAt w.heap.size w g ⟨ta, tc, na, nc, ra, rc⟩) := h
  have hbW : Hid (Below w.heap.size w (w.alloc (Obj.cells #[.slice ta g.terms.length tc, .slice na g.names.length nc, .slice ra g.rules.length rc] 25))) := (Below.refl _ w).alloc (Nat.le_refl _) _
  have b0 : Hid ((w.alloc (Obj.cells #[.slice ta g.terms.length tc, .slice na g.names.length nc, .slice ra g.rules.length rc] 25)).heap[w.heap.size]? = some (.cells #[.slice ta g.terms.length tc, .slice na g.names.length nc, .slice ra g.rules.length rc] 25 (0, 0))) := heap_alloc_new w _
  have HL1 : Hid (∀ (W : World), Below w.heap.size w W → _) := fun W hW => large_is false g ⟨ta, tc, na, nc, ra, rc⟩ W hm (h.later hW).size hl
  have htx : Sh.text g = (0, Sh.allT g g.rules) := by unfold Sh.text; rw [if_neg (by rw [hg]; simp), if_pos hz]
  have HST : Hid (∀ (W : World), Below w.heap.size w W → _) := fun W hW => showText_is g ⟨ta, tc, na, nc, ra, rc⟩ 0 _ W hm (h.later hW).size htx
  have HTB : Hid _ := fun q hq => Sh.text_bytes hg q hq
  have HLO : Hid (∀ r ∈ g.rules, (Sh.lineT g r).size ≤ 2000 → _) := fun r hr hz => Sh.line_of hg r hr hz
  have H8 : Hid (∀ x ∈ g.rules, x.2.length ≤ 8) := fits_right (Gr.good_parts hg).2.2.2.1
  have hs0 := of_decide_eq_true (Gr.good_parts hg).1
  have hl60 : g.rules.length ≤ 60 := by omega
  have HEND : Hid (Sh.allT g (g.rules.take g.rules.length) = Sh.allT g g.rules) := by show _ = _; rw [List.take_length]
  simp only [gmCells] at HL1 HST ⊢
  clear hl hg h hm htx hs0
  go_enter Try.func7, Try.ntmps7
  go_wp2_with (go_at_call 8; fail)
  generalize (w.alloc (Obj.cells #[.slice ta g.terms.length tc, .slice na g.names.length nc, .slice ra g.rules.length rc] 25)) = W at *
  refine (HL1.out _ hbW.out).mono ?_
  rintro e w1 ⟨rfl, hb1⟩
  have k1 : Hid _ := blk_at b0.out hb1
  have HB1 : Hid (Below w.heap.size w w1) := hbW.out.trans (hb1.mono hbW.out.size)
  clear hb1 b0 hbW HL1
  obtain ⟨g0, g1, g2, _⟩ := cells_three_z k1.out
  go_wp2_with (go_at_call 20; fail)
  refine (HST.out _ HB1.out).mono ?_
  rintro e w2 ⟨rfl, hb2⟩
  have k2 : Hid _ := blk_at k1.out hb2
  have HB2 : Hid (Below w.heap.size w w2) := HB1.out.trans (hb2.mono HB1.out.size)
  clear hb2 k1 HB1 HST g0 g1 g2
  have HL0 : Hid (LnAt g 0 0) := LnAt.begin g 0 (Nat.zero_le _)
  go_wp2_with fail
  go_loopw [5, 6, 7] (fun u v i wr => ∃ (q : Nat) (j : Nat), q ≤ g.rules.length ∧ u = .int .i64 q ∧ v = .int .i64 ((Sh.allT g (g.rules.take q)).size : Int) ∧ i = .int .i64 (j : Int) ∧ Hid (LnAt g q j) ∧ Hid (Below w2.heap.size w2 wr)) (fun _ _ i _ => (Sh.allT g g.rules).size - (intOf i).toNat)
  case atStart => exact ⟨0, 0, Nat.zero_le _, rfl, rfl, rfl, HL0, Below.refl _ _⟩
  case round =>
    obtain ⟨q, j, hq, rfl, rfl, rfl, hln, hb⟩ := hrel
    clear HL0
    obtain ⟨hbj, hcase⟩ := hln.out
    have HBr : Hid (Below w.heap.size w wr) := HB2.out.trans (hb.out.mono HB2.out.size)
    obtain ⟨g0, g1, g2, _⟩ := cells_three_z (blk_at k2.out hb.out)
    rcases hcase with ⟨hql, hjl⟩ | ⟨rfl, rfl⟩
    · obtain ⟨t1, t2, t3, t4⟩ := HTB.out q hql
      have hji : j < (Sh.allT g g.rules).size := by omega
      have hji' : (j : Int) < ((Sh.allT g g.rules).size : Int) := by omega
      have hqi : (q : Int) < (g.rules.length : Int) := by omega
      by_cases hjq : j < (Sh.allT g (g.rules.take q)).size + (Sh.lineT g g.rules[q]).size
      · have hne := t2 j hji hbj hjq
        have m : (((Sh.allT g g.rules)[j].toNat : Int) != 10) = true := by
          rw [bne, show (((Sh.allT g g.rules)[j].toNat : Int) == 10) = ((Sh.allT g g.rules)[j] == 10) from Lx.beqI _ 10]
          simpa using hne
        have HLN : Hid (LnAt g q (j + 1)) := ⟨by omega, .inl ⟨hql, by omega⟩⟩
        clear t1 t2 t3 t4 hne hln
        generalize Sh.allT g g.rules = tx at *
        go_wp2_with fail
        go_roundw
        case rel => exact ⟨q, j + 1, hq, rfl, rfl, by go_num, HLN, hb⟩
        case measure => simp [intOf]; omega
      · have hje : j = (Sh.allT g (g.rules.take q)).size + (Sh.lineT g g.rules[q]).size := by omega
        subst hje
        have m : (((Sh.allT g g.rules)[(Sh.allT g (g.rules.take q)).size + (Sh.lineT g g.rules[q]).size].toNat : Int) != 10) = false := by
          rw [bne, show (((Sh.allT g g.rules)[(Sh.allT g (g.rules.take q)).size + (Sh.lineT g g.rules[q]).size].toNat : Int) == 10) = ((Sh.allT g g.rules)[(Sh.allT g (g.rules.take q)).size + (Sh.lineT g g.rules[q]).size] == 10) from Lx.beqI _ 10, t3 hji]
          rfl
        have HNX : Hid (((Sh.allT g (g.rules.take (q + 1))).size : Int) = ((Sh.allT g (g.rules.take q)).size : Int) + ((Sh.lineT g g.rules[q]).size : Int) + 1) := by show _ = _; rw [Sh.text_next q hql]; omega
        have HLN : Hid (LnAt g (q + 1) ((Sh.allT g (g.rules.take q)).size + (Sh.lineT g g.rules[q]).size + 1)) := by
          rw [← Sh.text_next q hql]; exact LnAt.begin g (q + 1) hql
        have HXE : Hid ((Sh.allT g g.rules).extract (Sh.allT g (g.rules.take q)).size ((Sh.allT g (g.rules.take q)).size + (Sh.lineT g g.rules[q]).size) = Sh.lineT g g.rules[q]) := t4
        have hl3 := Sh.line_three (g := g) g.rules[q]
        have HLE : Hid _ := (Sh.line_end (g := g) g.rules[q]).2
        have HLC : Hid _ := HLO.out g.rules[q] (List.getElem_mem hql) (by omega)
        have h8k := H8.out _ (List.getElem_mem hql)
        obtain ⟨rb, ro, yo, yc, hra, _, _, y0, y1, yI, yl1, yl2⟩ := HG.out.rules q hql
        simp only at hra
        subst hra
        have HY : Hid (IntsAt w.heap.size w yo g.rules[q].2) := yI
        clear t1 t2 t3 t4 hln hbj hjl hjq yI
        generalize Sh.lineT g g.rules[q] = ln at *
        generalize g.rules[q] = y at *
        obtain ⟨yl, yr⟩ := y
        simp only at y0 y1 HY h8k yl1 yl2 HLC
        have HYC : Hid (w.cell? ⟨rb, ro + q * 2, none⟩ = some (.int .i64 yl) ∧ w.cell? ⟨rb, ro + q * 2 + 1, none⟩ = some (.slice yo yr.length yc)) := ⟨y0, y1⟩
        clear y0 y1
        generalize (Sh.allT g (g.rules.take q)).size = bq at *
        generalize Sh.allT g g.rules = tx at *
        go_upto_region 12 with fail
        rw [HXE.out]
        have hle := HLE.out
        have hd3 : decide ((ln.size : Int) < 3) = false := decide_eq_false (by omega)
        go_wp2_with fail
        clear hle hd3
        go_loopw [9, 10] (fun v i wq => ∃ m : Nat, m ≤ yr.length ∧ v = .bool ((yr.take m).all (fun x => decide (x < (g.terms.length : Int)) || decide (x = yl))) ∧ i = .int .i64 m ∧ Hid (Below w2.heap.size w2 wq)) (fun _ i _ => yr.length - (intOf i).toNat)
        case atStart => exact ⟨0, Nat.zero_le _, rfl, rfl, hb⟩
        case round =>
          obtain ⟨m', hmy, rfl, rfl, hb⟩ := hrel
          have HBr : Hid (Below w.heap.size w wr) := HB2.out.trans (hb.out.mono HB2.out.size)
          clear g0 g1 g2
          obtain ⟨g0, g1, g2, _⟩ := cells_three_z (blk_at k2.out hb.out)
          have y0 := cell_later HBr.out HYC.out.1
          have y1 := cell_later HBr.out HYC.out.2
          by_cases hml : m' < yr.length
          · have hmi : (m' : Int) < (yr.length : Int) := by omega
            obtain ⟨sb, so, rfl, _, _, s0⟩ := IntsAt.get HY.out m' hml
            replace s0 := cell_later HBr.out s0
            have HSP : Hid ((yr.take (m' + 1)).all (fun x => decide (x < (g.terms.length : Int)) || decide (x = yl)) = ((yr.take m').all (fun x => decide (x < (g.terms.length : Int)) || decide (x = yl)) && (decide (yr[m'] < (g.terms.length : Int)) || decide (yr[m'] = yl)))) := by
              show _ = _; rw [List.take_add_one, List.getElem?_eq_getElem hml, List.all_append]; simp
            generalize yr[m'] = sy at *
            generalize (yr.take m').all (fun x => decide (x < (g.terms.length : Int)) || decide (x = yl)) = ob at *
            cases ob
            · rw [Bool.false_and] at HSP
              go_wp2_with fail
              go_roundw
              case rel => exact ⟨m' + 1, by omega, by rw [HSP.out], by go_num, hb⟩
              case measure => simp [intOf]; omega
            · rw [Bool.true_and] at HSP
              by_cases hst : sy < (g.terms.length : Int)
              · rw [decide_eq_true hst, Bool.true_or] at HSP
                go_wp2_with fail
                go_roundw
                case rel => exact ⟨m' + 1, by omega, by rw [HSP.out], by go_num, hb⟩
                case measure => simp [intOf]; omega
              · have hsd : decide (sy < (g.terms.length : Int)) = false := decide_eq_false hst
                rw [hsd, Bool.false_or] at HSP
                by_cases hse : sy = yl
                · subst hse
                  rw [decide_eq_true rfl] at HSP
                  go_wp2_with fail
                  go_roundw
                  case rel => exact ⟨m' + 1, by omega, by rw [HSP.out], by go_num, hb⟩
                  case measure => simp [intOf]; omega
                · have hsb : (sy == yl) = false := by simpa using hse
                  rw [decide_eq_false hse] at HSP
                  go_wp2_with fail
                  go_roundw
                  case rel => exact ⟨m' + 1, by omega, by rw [HSP.out], by go_num, hb⟩
                  case measure => simp [intOf]; omega
          · have HKE : Hid (yr.take m' = yr) := by show _ = _; rw [List.take_of_length_le (by omega)]
            rw [HKE.out]
            have hlm : ln.size ≤ maxLen := by unfold maxLen; omega
            have HOW : Hid (Sh.own g (yl, yr) = yr.all (fun x => decide (x < (g.terms.length : Int)) || decide (x = yl))) := by show _ = _; rfl
            rcases HLC.out with ⟨ho, gg, x, hof, hx1, hx2⟩ | ⟨ho, pz, hof⟩
            · rw [← HOW.out, ho]
              have HOF : Hid _ := hof
              have HX1 : Hid (gg.rules = [x]) := hx1
              have HX2 : Hid (x.2.length = yr.length) := hx2
              clear hof hx1 hx2 ho HLC
              go_wp2_with (go_at_call 10; fail)
              refine (of_is ln 0 0 gg wr hlm HOF).mono ?_
              rintro e w3 ⟨⟨ta1, tc1, na1, nc1, ra1, rc1⟩, rfl, hb3, ho3⟩
              simp only [gmCells]
              clear g0 g1 g2 y0 y1
              have bB1 : Hid (Below w3.heap.size w3 ((w3.alloc (Obj.cells #[.slice ta1 gg.terms.length tc1, .slice na1 gg.names.length nc1, .slice ra1 gg.rules.length rc1] 25)).alloc (Obj.cells #[.int .i64 0, .int .i64 0] 30))) := ((Below.refl _ w3).alloc (Nat.le_refl _) _).alloc (by simp) _
              have kG1 : Hid (((w3.alloc (Obj.cells #[.slice ta1 gg.terms.length tc1, .slice na1 gg.names.length nc1, .slice ra1 gg.rules.length rc1] 25)).alloc (Obj.cells #[.int .i64 0, .int .i64 0] 30)).heap[w3.heap.size]? = some (.cells #[.slice ta1 gg.terms.length tc1, .slice na1 gg.names.length nc1, .slice ra1 gg.rules.length rc1] 25 (0, 0))) := by
                show _ = _; rw [Below.heap_alloc _ _ _ (by simp)]; exact heap_alloc_new w3 _
              have kF1 : Hid (((w3.alloc (Obj.cells #[.slice ta1 gg.terms.length tc1, .slice na1 gg.names.length nc1, .slice ra1 gg.rules.length rc1] 25)).alloc (Obj.cells #[.int .i64 0, .int .i64 0] 30)).heap[w3.heap.size + 1]? = some (.cells #[.int .i64 0, .int .i64 0] 30 (0, 0))) := by
                show _ = _
                have := heap_alloc_new (w3.alloc (Obj.cells #[.slice ta1 gg.terms.length tc1, .slice na1 gg.names.length nc1, .slice ra1 gg.rules.length rc1] 25)) (Obj.cells #[.int .i64 0, .int .i64 0] 30)
                simpa using this
              have gA1 : Hid _ := ho3.out.below bB1.out
              have hV4 : Hid (Below w2.heap.size w2 ((w3.alloc (Obj.cells #[.slice ta1 gg.terms.length tc1, .slice na1 gg.names.length nc1, .slice ra1 gg.rules.length rc1] 25)).alloc (Obj.cells #[.int .i64 0, .int .i64 0] 30))) := (hb.out.trans (hb3.out.mono hb.out.size)).trans (bB1.out.mono (Nat.le_trans hb.out.size hb3.out.size))
              clear bB1 hb3 ho3
              go_upto_region 22 with fail
              generalize ((w3.alloc (Obj.cells #[.slice ta1 gg.terms.length tc1, .slice na1 gg.names.length nc1, .slice ra1 gg.rules.length rc1] 25)).alloc (Obj.cells #[.int .i64 0, .int .i64 0] 30)) = V4 at *
              obtain ⟨f0, _, _⟩ := cells_two_z kF1.out
              obtain ⟨_, _, j2, _⟩ := cells_three_z kG1.out
              obtain ⟨c0, c1, c2, _⟩ := cells_three_z (blk_at k2.out hV4.out)
              have HB4 : Hid (Below w.heap.size w V4) := HB2.out.trans (hV4.out.mono HB2.out.size)
              have y1 := cell_later HB4.out HYC.out.2
              have hr0 : (0 : Nat) < gg.rules.length := by rw [HX1.out]; simp
              obtain ⟨hb0, hO0, ho0, hc0, hra0, _, _, _, x1, _, _, _⟩ := gA1.out.at.rules 0 hr0
              simp only at hra0
              subst hra0
              have hx0 : gg.rules[0].2.length = yr.length := by
                have e : gg.rules[0] = x := by simp [HX1.out]
                rw [e]; exact HX2.out
              have hgl : gg.rules.length = 1 := by rw [HX1.out]; rfl
              rw [hx0, show hO0 + 0 * 2 + 1 = hO0 + 1 from by omega] at x1
              rw [hgl] at j2
              clear c0 c1 gA1 kF1 kG1
              go_quiet (fail)
              go_wp2_with fail
              go_roundw
              case rel => exact ⟨q + 1, _, by omega, rfl, by rw [HNX.out], by go_num, HLN, below_drewN hV4.out _⟩
              case measure => simp [intOf]; omega
            · rw [← HOW.out, ho]
              have HOF : Hid _ := hof
              clear hof ho HLC
              go_wp2_with (go_at_call 10; fail)
              refine (of_is ln 13 pz ⟨[], [], []⟩ wr hlm HOF).mono ?_
              rintro e w3 ⟨⟨ta1, tc1, na1, nc1, ra1, rc1⟩, rfl, hb3, ho3⟩
              simp only [gmCells, List.length_nil]
              clear g0 g1 g2 y0 y1
              have bB1 : Hid (Below w3.heap.size w3 ((w3.alloc (Obj.cells #[.slice ta1 0 tc1, .slice na1 0 nc1, .slice ra1 0 rc1] 25)).alloc (Obj.cells #[.int .i64 13, .int .i64 pz] 30))) := ((Below.refl _ w3).alloc (Nat.le_refl _) _).alloc (by simp) _
              have kG1 : Hid (((w3.alloc (Obj.cells #[.slice ta1 0 tc1, .slice na1 0 nc1, .slice ra1 0 rc1] 25)).alloc (Obj.cells #[.int .i64 13, .int .i64 pz] 30)).heap[w3.heap.size]? = some (.cells #[.slice ta1 0 tc1, .slice na1 0 nc1, .slice ra1 0 rc1] 25 (0, 0))) := by
                show _ = _; rw [Below.heap_alloc _ _ _ (by simp)]; exact heap_alloc_new w3 _
              have kF1 : Hid (((w3.alloc (Obj.cells #[.slice ta1 0 tc1, .slice na1 0 nc1, .slice ra1 0 rc1] 25)).alloc (Obj.cells #[.int .i64 13, .int .i64 pz] 30)).heap[w3.heap.size + 1]? = some (.cells #[.int .i64 13, .int .i64 pz] 30 (0, 0))) := by
                show _ = _
                have := heap_alloc_new (w3.alloc (Obj.cells #[.slice ta1 0 tc1, .slice na1 0 nc1, .slice ra1 0 rc1] 25)) (Obj.cells #[.int .i64 13, .int .i64 pz] 30)
                simpa using this
              have gA1 : Hid _ := ho3.out.below bB1.out
              have hV4 : Hid (Below w2.heap.size w2 ((w3.alloc (Obj.cells #[.slice ta1 0 tc1, .slice na1 0 nc1, .slice ra1 0 rc1] 25)).alloc (Obj.cells #[.int .i64 13, .int .i64 pz] 30))) := (hb.out.trans (hb3.out.mono hb.out.size)).trans (bB1.out.mono (Nat.le_trans hb.out.size hb3.out.size))
              clear bB1 hb3 ho3
              go_upto_region 22 with fail
              generalize ((w3.alloc (Obj.cells #[.slice ta1 0 tc1, .slice na1 0 nc1, .slice ra1 0 rc1] 25)).alloc (Obj.cells #[.int .i64 13, .int .i64 pz] 30)) = V4 at *
              obtain ⟨f0, _, _⟩ := cells_two_z kF1.out
              obtain ⟨_, _, j2, _⟩ := cells_three_z kG1.out
              obtain ⟨c0, c1, c2, _⟩ := cells_three_z (blk_at k2.out hV4.out)
              have HB4 : Hid (Below w.heap.size w V4) := HB2.out.trans (hV4.out.mono HB2.out.size)
              have y1 := cell_later HB4.out HYC.out.2
              clear c0 c1 gA1 kF1 kG1
              go_quiet (fail)
              go_wp2_with fail
              go_roundw
              case rel => exact ⟨q + 1, _, by omega, rfl, by rw [HNX.out], by go_num, HLN, below_drewN hV4.out _⟩
              case measure => simp [intOf]; omega
    · clear hln hbj
      rw [HEND.out]
      generalize Sh.allT g g.rules = tx at *
      go_wp2_with (go_at_call 19; fail)
      refine (swakes_any _).mono ?_
      rintro e w5 ⟨rfl, hb5⟩
      go_wp2_with fail
      go_ret
      exact ⟨rfl, HBr.out.trans (hb5.mono HBr.out.size)⟩

set_option maxRecDepth 100000 in
set_option maxHeartbeats 6400000 in
theorem showLines_none (g : Gr.Gm) (A : GA) (n : Int) (w : World) (h : GmAt w.heap.size w g A) (hm : ∀ r ∈ g.rules, r.2.length ≤ maxLen) (hl : Gr.large g = false) (h0 : n ≠ 0) (htx : Sh.text g = (n, ⟨#[]⟩)) :
    Calls Try.prog 7 #[.agg (gmCells g A)] w fun e w' => e = .returned (.bool true) ∧ Below w.heap.size w w' := by
  obtain ⟨ta, tc, na, nc, ra, rc⟩ := A
  have hbW : Hid (Below w.heap.size w (w.alloc (Obj.cells #[.slice ta g.terms.length tc, .slice na g.names.length nc, .slice ra g.rules.length rc] 25))) := (Below.refl _ w).alloc (Nat.le_refl _) _
  have b0 : Hid ((w.alloc (Obj.cells #[.slice ta g.terms.length tc, .slice na g.names.length nc, .slice ra g.rules.length rc] 25)).heap[w.heap.size]? = some (.cells #[.slice ta g.terms.length tc, .slice na g.names.length nc, .slice ra g.rules.length rc] 25 (0, 0))) := heap_alloc_new w _
  have HL1 : Hid (∀ (W : World), Below w.heap.size w W → _) := fun W hW => large_is false g ⟨ta, tc, na, nc, ra, rc⟩ W hm (h.later hW).size hl
  have HST : Hid (∀ (W : World), Below w.heap.size w W → _) := fun W hW => showText_is g ⟨ta, tc, na, nc, ra, rc⟩ n _ W hm (h.later hW).size htx
  have hnb : (n != 0) = true := by simpa using h0
  simp only [gmCells] at HL1 HST ⊢
  clear hl h hm htx
  go_enter Try.func7, Try.ntmps7
  go_wp2_with (go_at_call 8; fail)
  generalize (w.alloc (Obj.cells #[.slice ta g.terms.length tc, .slice na g.names.length nc, .slice ra g.rules.length rc] 25)) = W at *
  refine (HL1.out _ hbW.out).mono ?_
  rintro e w1 ⟨rfl, hb1⟩
  obtain ⟨g0, g1, g2, _⟩ := cells_three_z (blk_at b0.out hb1)
  have HB1 : Hid (Below w.heap.size w w1) := hbW.out.trans (hb1.mono hbW.out.size)
  go_wp2_with (go_at_call 20; fail)
  refine (HST.out _ HB1.out).mono ?_
  rintro e w2 ⟨rfl, hb2⟩
  have HB2 : Hid (Below w.heap.size w w2) := HB1.out.trans (hb2.mono HB1.out.size)
  go_wp2_with (go_at_call 19; fail)
  refine (swakes_any _).mono ?_
  rintro e w3 ⟨rfl, hb3⟩
  go_wp2_with fail
  go_ret
  exact ⟨rfl, HB2.out.trans (hb3.mono HB2.out.size)⟩

set_option maxRecDepth 100000 in
set_option maxHeartbeats 6400000 in
theorem showLines_large (g : Gr.Gm) (A : GA) (w : World) (h : GmAt w.heap.size w g A) (hm : ∀ r ∈ g.rules, r.2.length ≤ maxLen) (hl : Gr.large g = true) :
    Calls Try.prog 7 #[.agg (gmCells g A)] w fun e w' => e = .returned (.bool true) ∧ Below w.heap.size w w' := by
  obtain ⟨ta, tc, na, nc, ra, rc⟩ := A
  have hbW : Hid (Below w.heap.size w (w.alloc (Obj.cells #[.slice ta g.terms.length tc, .slice na g.names.length nc, .slice ra g.rules.length rc] 25))) := (Below.refl _ w).alloc (Nat.le_refl _) _
  have HL1 : Hid (∀ (W : World), Below w.heap.size w W → _) := fun W hW => large_is true g ⟨ta, tc, na, nc, ra, rc⟩ W hm (h.later hW).size hl
  clear hl h hm
  simp only [gmCells] at HL1 ⊢
  go_enter Try.func7, Try.ntmps7
  go_wp2_with (go_at_call 8; fail)
  refine (HL1.out _ hbW.out).mono ?_
  rintro e w1 ⟨rfl, hb1⟩
  have HB1 : Hid (Below w.heap.size w w1) := hbW.out.trans (hb1.mono hbW.out.size)
  go_wp2_with (go_at_call 19; fail)
  refine (swakes_any _).mono ?_
  rintro e w3 ⟨rfl, hb3⟩
  go_wp2_with fail
  go_ret
  exact ⟨rfl, HB1.out.trans (hb3.mono HB1.out.size)⟩

theorem showLines_walk (g : Gr.Gm) (A : GA) (w : World) (h : GmAt w.heap.size w g A) (hr : ∀ r ∈ g.rules, r.2.length ≤ maxLen ∧ rlWf r) :
    Calls Try.prog 7 #[.agg (gmCells g A)] w fun e w' => e = .returned (.bool true) ∧ Below w.heap.size w w' := by
  have hm : ∀ r ∈ g.rules, r.2.length ≤ maxLen := fun r h => (hr r h).1
  cases hl : Gr.large g
  · obtain ⟨n, s, htx⟩ : ∃ n s, Sh.text g = (n, s) := ⟨_, _, rfl⟩
    by_cases h0 : n = 0
    · subst h0
      obtain ⟨hg, hz⟩ := Sh.text_zero htx
      exact showLines_good g A w h hm hl hg hz
    · have := Sh.text_none h0 htx
      subst this
      exact showLines_none g A n w h hm hl h0 htx
  · exact showLines_large g A w h hm hl
end Go.Proofs.Ytnphfhoknnnciaa
