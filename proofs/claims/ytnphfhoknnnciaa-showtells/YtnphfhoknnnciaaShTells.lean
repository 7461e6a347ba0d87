/-
  The document's own Text of layer 4; the law ShowTells, walked: it returns true, of every grammar and number.
-/
import Derived.Test.YtnphfhoknnnciaaShRef
import Derived.Test.YtnphfhoknnnciaaShWakes
import Derived.Test.YtnphfhoknnnciaaGrKeeps
import Derived.Test.YtnphfhoknnnciaaGrOpen
namespace Go.Proofs.Ytnphfhoknnnciaa
open Go.RowKit

set_option maxRecDepth 100000 in
set_option maxHeartbeats 6400000 in
theorem refText_is (g : Gr.Gm) (A : GA) (n : Int) (s : ByteArray) (w : World) (l1 : g.terms.length ≤ 4000) (l2 : g.names.length ≤ 4000) (hm : ∀ x ∈ g.rules, x.2.length ≤ maxLen) (h : GmAt w.heap.size w g A) (hr : Sh.text g = (n, s)) :
    Calls Try.prog 21 #[.agg (gmCells g A)] w fun e w' => e = .returned (.tuple #[.string s, .int .i64 n]) ∧ Below w.heap.size w w' := by
  obtain ⟨ta, tc, na, nc, ra, rc⟩ := A
  have hbW : Hid (Below w.heap.size w (w.alloc (Obj.cells #[.slice ta g.terms.length tc, .slice na g.names.length nc, .slice ra g.rules.length rc] 25))) := (Below.refl _ w).alloc (Nat.le_refl _) _
  have b0 : Hid ((w.alloc (Obj.cells #[.slice ta g.terms.length tc, .slice na g.names.length nc, .slice ra g.rules.length rc] 25)).heap[w.heap.size]? = some (.cells #[.slice ta g.terms.length tc, .slice na g.names.length nc, .slice ra g.rules.length rc] 25 (0, 0))) := heap_alloc_new w _
  have HRG : Hid (∀ (r : Bool) (W : World), Below w.heap.size w W → Gr.good g = r → Calls Try.prog 17 #[.agg (gmCells g ⟨ta, tc, na, nc, ra, rc⟩)] W fun e w' => e = .returned (.bool r) ∧ Below W.heap.size W w') := fun r W hW hg => refGood_any r g _ W hm (h.later hW).size ((Gr.refGood_is g).trans hg)
  have HR : Hid (Sh.text g = (n, s)) := hr
  cases hg : Gr.good g
  · have E : Hid (n = 16 ∧ s = ⟨#[]⟩) := by
      have := HR.out
      unfold Sh.text at this
      rw [if_pos hg] at this
      cases this; exact ⟨rfl, rfl⟩
    obtain ⟨rfl, rfl⟩ := E.out
    have HG1 : Hid (∀ (W : World), Below w.heap.size w W → _) := fun W hW => HRG.out false W hW hg
    simp only [gmCells] at HG1 ⊢
    clear h hr hm HRG hg E HR
    go_enter Try.func21, Try.ntmps21
    go_wp2_with (go_at_call 17; fail)
    refine (HG1.out _ hbW.out).mono ?_
    rintro e w1 ⟨rfl, hb1⟩
    go_wp2_with fail
    go_ret2
    exact ⟨rfl, hbW.out.trans (hb1.mono hbW.out.size)⟩
  · have HG1 : Hid (∀ (W : World), Below w.heap.size w W → _) := fun W hW => HRG.out true W hW hg
    have H8 : Hid (∀ x ∈ g.rules, x.2.length ≤ 8) := fits_right (Gr.good_parts hg).2.2.2.1
    have HSZ : Hid (∀ k, (Sh.allT g (g.rules.take k)).size ≤ k * 40003) := Sh.allT_size hg g.rules H8.out
    have HRZ : Hid (∀ r ∈ g.rules, (Sh.ruleT g r).size ≤ 40000) := fun r hr => Sh.ruleT_size hg (H8.out r hr)
    have hs0 := of_decide_eq_true (Gr.good_parts hg).1
    have hl60 : g.rules.length ≤ 60 := by omega
    have HSR : Hid (∀ (k : Nat) (hk : k < g.rules.length) (W : World), Below w.heap.size w W → Calls Try.prog 23 #[.agg (gmCells g ⟨ta, tc, na, nc, ra, rc⟩), .int .i64 (k : Int)] W fun e w' => e = .returned (.agg #[.string (Sh.ruleT g g.rules[k]), .bool true]) ∧ Below W.heap.size W w') := fun k hk W hW => refRule_is g _ k 0 _ W l1 l2 hm (h.later hW).size (by
      unfold Sh.line
      rw [if_neg (by rw [hg]; simp), if_pos (by omega), Int.toNat_natCast, List.getD_eq_getElem?_getD, List.getElem?_eq_getElem hk]; rfl)
    have HTE : Hid ((if (Sh.allT g g.rules).size ≤ 2000 then (0, Sh.allT g g.rules) else (14, ⟨#[]⟩) : Int × ByteArray) = (n, s)) := by
      have := HR.out; unfold Sh.text at this; rw [if_neg (by rw [hg]; simp)] at this; exact this
    simp only [gmCells] at HG1 HSR ⊢
    clear h hr hm HRG hg HR hs0
    go_enter Try.func21, Try.ntmps21
    go_wp2_with (go_at_call 17; fail)
    generalize (w.alloc (Obj.cells #[.slice ta g.terms.length tc, .slice na g.names.length nc, .slice ra g.rules.length rc] 25)) = W at *
    refine (HG1.out _ hbW.out).mono ?_
    rintro e w1 ⟨rfl, hb1⟩
    have k1 : Hid _ := blk_at b0.out hb1
    have HB1 : Hid (Below w.heap.size w w1) := hbW.out.trans (hb1.mono hbW.out.size)
    clear hb1 b0 hbW HG1
    go_wp2_with fail
    go_loopw [4, 5] (fun v i wr => ∃ k : Nat, k ≤ g.rules.length ∧ v = .string (Sh.allT g (g.rules.take k)) ∧ i = .int .i64 k ∧ Hid (Below w1.heap.size w1 wr)) (fun _ i _ => g.rules.length - (intOf i).toNat)
    case atStart => exact ⟨0, Nat.zero_le _, rfl, rfl, Below.refl _ _⟩
    case round =>
      obtain ⟨k, hk, rfl, rfl, hb⟩ := hrel
      have hszk := HSZ.out k
      have HBr : Hid (Below w.heap.size w wr) := HB1.out.trans (hb.out.mono HB1.out.size)
      obtain ⟨g0, g1, g2, _⟩ := cells_three_z (blk_at k1.out hb.out)
      by_cases hlt : k < g.rules.length
      · have hki : (k : Int) < (g.rules.length : Int) := by omega
        have HSk : Hid (∀ W', Below w.heap.size w W' → _) := fun W' hW' => HSR.out k hlt W' hW'
        have hrz := HRZ.out _ (List.getElem_mem hlt)
        have HSP : Hid _ := Sh.allT_step g g.rules k hlt
        generalize g.rules[k] = y at *
        generalize Sh.ruleT g y = rt at *
        generalize Sh.allT g (g.rules.take k) = acc at *
        go_wp2_with (go_at_call 23; fail)
        refine (HSk.out _ HBr.out).mono ?_
        rintro e w3 ⟨rfl, hb3⟩
        have hb13 : Hid (Below w1.heap.size w1 w3) := hb.out.trans (hb3.mono hb.out.size)
        have HSP' : Hid (Sh.allT g (g.rules.take (k + 1)) = acc ++ (rt ++ ⟨#[32, 59, 10]⟩)) := HSP.out
        clear hb3 HSk HSP
        go_wp2_with fail
        rw [field_line]
        simp only [Result.andThen]
        rw [Oper.upon_value]
        go_wp2_with fail
        go_roundw
        case rel => exact ⟨k + 1, by omega, by rw [HSP'.out], by go_num, hb13⟩
        case measure => simp [intOf]; omega
      · have HK : Hid (g.rules.take k = g.rules) := by show _ = _; rw [List.take_of_length_le (by omega)]
        rw [HK.out] at hszk ⊢
        generalize Sh.allT g g.rules = tx at *
        by_cases h2 : tx.size ≤ 2000
        · have HNS : Hid (n = 0 ∧ s = tx) := by
            have e := HTE.out
            rw [if_pos h2] at e
            cases e
            exact ⟨rfl, rfl⟩
          obtain ⟨rfl, rfl⟩ := HNS.out
          have h2i : decide ((2000 : Int) < (s.size : Int)) = false := decide_eq_false (by omega)
          go_wp2_with fail
          go_ret2
          exact ⟨rfl, HBr.out⟩
        · have HNS : Hid (n = 14 ∧ s = ⟨#[]⟩) := by
            have e := HTE.out
            rw [if_neg h2] at e
            cases e
            exact ⟨rfl, rfl⟩
          obtain ⟨rfl, rfl⟩ := HNS.out
          have h2i : (2000 : Int) < (tx.size : Int) := by omega
          go_wp2_with fail
          go_ret2
          exact ⟨rfl, HBr.out⟩

set_option maxRecDepth 100000 in
set_option maxHeartbeats 6400000 in
theorem showTells_walk (g : Gr.Gm) (A : GA) (i : Int) (w : World) (h : GmAt w.heap.size w g A) (hr : ∀ r ∈ g.rules, r.2.length ≤ maxLen ∧ rlWf r) (_ : (Lit.int .i64 i).wf = true) :
    Calls Try.prog 4 #[.agg (gmCells g A), .int .i64 i] w fun e w' => e = .returned (.bool true) ∧ Below w.heap.size w w' := by
  have hm : ∀ r ∈ g.rules, r.2.length ≤ maxLen := fun r h => (hr r h).1
  obtain ⟨ta, tc, na, nc, ra, rc⟩ := A
  have HG : Hid (GmAt w.heap.size w g ⟨ta, tc, na, nc, ra, rc⟩) := h
  have hbW : Hid (Below w.heap.size w (w.alloc (Obj.cells #[.slice ta g.terms.length tc, .slice na g.names.length nc, .slice ra g.rules.length rc] 25))) := (Below.refl _ w).alloc (Nat.le_refl _) _
  have b0 : Hid ((w.alloc (Obj.cells #[.slice ta g.terms.length tc, .slice na g.names.length nc, .slice ra g.rules.length rc] 25)).heap[w.heap.size]? = some (.cells #[.slice ta g.terms.length tc, .slice na g.names.length nc, .slice ra g.rules.length rc] 25 (0, 0))) := heap_alloc_new w _
  have HLG : Hid (∀ (r : Bool) (W : World), Below w.heap.size w W → Gr.large g = r → Calls Try.prog 8 #[.agg (gmCells g ⟨ta, tc, na, nc, ra, rc⟩)] W fun e w' => e = .returned (.bool r) ∧ Below W.heap.size W w') := fun r W hW hl => large_is r g _ W hm (h.later hW).size hl
  cases hl : Gr.large g
  · have HL1 : Hid (∀ (W : World), Below w.heap.size w W → _) := fun W hW => HLG.out false W hW hl
    obtain ⟨l1, l2, l3, l4, l5, l6⟩ := Gr.large_no hl
    have HOW : Hid (∀ W, Below w.heap.size w W → _) := fun W hW => own_is g ⟨ta, tc, na, nc, ra, rc⟩ W l1 l2 (by omega) (fun r hr => by have := l6 r hr; omega) (h.later hW).size
    obtain ⟨tn, tx, htx⟩ : ∃ tn tx, Sh.text g = (tn, tx) := ⟨_, _, rfl⟩
    obtain ⟨ln, lx, hlx⟩ : ∃ ln lx, Sh.line g i = (ln, lx) := ⟨_, _, rfl⟩
    have HST : Hid (∀ (W : World) (A' : GA), GmAt W.heap.size W g A' → Calls Try.prog 20 #[.agg (gmCells g A')] W fun e w' => e = .returned (.tuple #[.string tx, .int .i64 tn]) ∧ Below W.heap.size W w') := fun W A' hA => showText_is g A' tn tx W hm hA htx
    have HRT : Hid (∀ (W : World), Below w.heap.size w W → Calls Try.prog 21 #[.agg (gmCells g ⟨ta, tc, na, nc, ra, rc⟩)] W fun e w' => e = .returned (.tuple #[.string tx, .int .i64 tn]) ∧ Below W.heap.size W w') := fun W hW => refText_is g _ tn tx W l1 l2 hm (h.later hW).size htx
    have HSR : Hid (∀ (W : World) (A' : GA), GmAt W.heap.size W g A' → Calls Try.prog 22 #[.agg (gmCells g A'), .int .i64 i] W fun e w' => e = .returned (.tuple #[.string lx, .bool (ln == 0)]) ∧ Below W.heap.size W w') := fun W A' hA => showRule_is g A' i ln lx W hm hA hlx
    have HRR : Hid (∀ (W : World), Below w.heap.size w W → Calls Try.prog 23 #[.agg (gmCells g ⟨ta, tc, na, nc, ra, rc⟩), .int .i64 i] W fun e w' => e = .returned (.agg #[.string lx, .bool (ln == 0)]) ∧ Below W.heap.size W w') := fun W hW => refRule_is g _ i ln lx W l1 l2 hm (h.later hW).size hlx
    have HKI : Hid (∀ (W : World) (A' B' : GA), GmAt W.heap.size W g A' → GmAt W.heap.size W g B' → Calls Try.prog 15 #[.agg (gmCells g A'), .agg (gmCells g B')] W fun e w' => e = .returned (.bool true) ∧ Below W.heap.size W w') := fun W A' B' h1 h2 => keepGrammar_same g A' B' W ⟨l1, l2, by omega⟩ (fun r hr => by have := l6 r hr; omega) h1 h2
    generalize (ln == 0) = lb at *
    clear hl htx hlx l1 l2 l3 l4 l5 l6 HLG h hr hm
    simp only [gmCells] at HL1 HOW HST HRT HSR HRR HKI ⊢
    go_enter Try.func4, Try.ntmps4
    go_wp2_with (go_at_call 8; fail)
    generalize (w.alloc (Obj.cells #[.slice ta g.terms.length tc, .slice na g.names.length nc, .slice ra g.rules.length rc] 25)) = W at *
    refine (HL1.out _ hbW.out).mono ?_
    rintro e w1 ⟨rfl, hb1⟩
    have HB1 : Hid (Below w.heap.size w w1) := hbW.out.trans (hb1.mono hbW.out.size)
    have k1 : Hid _ := blk_at b0.out hb1
    obtain ⟨c0, c1, c2, _⟩ := cells_three_z k1.out
    clear hb1 b0 HL1 hbW
    go_wp2_with (go_at_call 12; fail)
    refine (HOW.out w1 HB1.out).mono ?_
    rintro e w2 ⟨⟨ta3, tc3, na3, nc3, ra3, rc3⟩, rfl, ho2, hb2, _⟩
    simp only
    have bB3 : Hid (Below w2.heap.size w2 (w2.alloc (Obj.cells #[.slice ta3 g.terms.length tc3, .slice na3 g.names.length nc3, .slice ra3 g.rules.length rc3] 25))) := (Below.refl _ w2).alloc (Nat.le_refl _) _
    have kI3 : Hid ((w2.alloc (Obj.cells #[.slice ta3 g.terms.length tc3, .slice na3 g.names.length nc3, .slice ra3 g.rules.length rc3] 25)).heap[w2.heap.size]? = some (.cells #[.slice ta3 g.terms.length tc3, .slice na3 g.names.length nc3, .slice ra3 g.rules.length rc3] 25 (0, 0))) := heap_alloc_new w2 _
    have k3 : Hid _ := blk_at (blk_at k1.out hb2.out) bB3.out
    have hB2 : Hid _ := HB1.out.trans (hb2.out.mono HB1.out.size)
    have hB3 : Hid _ := hB2.out.trans (bB3.out.mono hB2.out.size)
    have gI3 : Hid _ := ho2.out.below bB3.out
    clear c0 c1 c2 k1 HB1 hB2 ho2 hb2 HOW
    go_wp2_with (go_at_call 20; fail)
    generalize (w2.alloc (Obj.cells #[.slice ta3 g.terms.length tc3, .slice na3 g.names.length nc3, .slice ra3 g.rules.length rc3] 25)) = W3 at *
    refine (HST.out W3 ⟨ta3, tc3, na3, nc3, ra3, rc3⟩ gI3.out.at).mono ?_
    rintro e w4 ⟨rfl, hb4⟩
    have k4 : Hid _ := blk_at k3.out hb4
    have kI4 : Hid _ := blk_at kI3.out hb4
    have gI4 : Hid _ := gI3.out.below hb4
    have hB4 : Hid _ := hB3.out.trans (hb4.mono hB3.out.size)
    clear k3 kI3 gI3 hB3 hb4 HST
    obtain ⟨c0, c1, c2, _⟩ := cells_three_z k4.out
    go_wp2_with (go_at_call 21; fail)
    refine (HRT.out w4 hB4.out).mono ?_
    rintro e w5 ⟨rfl, hb5⟩
    have k5 : Hid _ := blk_at k4.out hb5
    have kI5 : Hid _ := blk_at kI4.out hb5
    have gI5 : Hid _ := gI4.out.below hb5
    have hB5 : Hid _ := hB4.out.trans (hb5.mono hB4.out.size)
    clear k4 kI4 gI4 hB4 hb5 HRT c0 c1 c2
    obtain ⟨c0, c1, c2, _⟩ := cells_three_z kI5.out
    go_wp2_with (go_at_call 22; fail)
    refine (HSR.out w5 ⟨ta3, tc3, na3, nc3, ra3, rc3⟩ gI5.out.at).mono ?_
    rintro e w6 ⟨rfl, hb6⟩
    have k6 : Hid _ := blk_at k5.out hb6
    have kI6 : Hid _ := blk_at kI5.out hb6
    have gI6 : Hid _ := gI5.out.below hb6
    have hB6 : Hid _ := hB5.out.trans (hb6.mono hB5.out.size)
    clear k5 kI5 gI5 hB5 hb6 HSR c0 c1 c2
    obtain ⟨c0, c1, c2, _⟩ := cells_three_z k6.out
    go_wp2_with (go_at_call 23; fail)
    refine (HRR.out w6 hB6.out).mono ?_
    rintro e w7 ⟨rfl, hb7⟩
    have bB8 : Hid (Below w7.heap.size w7 (w7.alloc (Obj.cells #[.string lx, .bool lb] 49))) := (Below.refl _ w7).alloc (Nat.le_refl _) _
    have kL8 : Hid ((w7.alloc (Obj.cells #[.string lx, .bool lb] 49)).heap[w7.heap.size]? = some (.cells #[.string lx, .bool lb] 49 (0, 0))) := heap_alloc_new w7 _
    have hb78 : Hid _ := hb7.trans (bB8.out.mono hb7.size)
    have k8 : Hid _ := blk_at k6.out hb78.out
    have kI8 : Hid _ := blk_at kI6.out hb78.out
    have gI8 : Hid _ := gI6.out.below hb78.out
    have hB8 : Hid _ := hB6.out.trans (hb78.out.mono hB6.out.size)
    clear k6 kI6 gI6 hB6 hb7 hb78 bB8 HRR c0 c1 c2
    go_upto_region 8 with fail
    generalize (w7.alloc (Obj.cells #[.string lx, .bool lb] 49)) = W8 at *
    obtain ⟨c0, c1, c2, _⟩ := cells_three_z k8.out
    obtain ⟨d0, d1, d2, _⟩ := cells_three_z kI8.out
    obtain ⟨e0, e1, _⟩ := cells_two_z kL8.out
    go_wp2_with (go_at_call 15; fail)
    refine (HKI.out W8 ⟨ta3, tc3, na3, nc3, ra3, rc3⟩ ⟨ta, tc, na, nc, ra, rc⟩ gI8.out.at (HG.out.later hB8.out).size).mono ?_
    rintro e w9 ⟨rfl, hb9⟩
    have hB9 : Hid _ := hB8.out.trans (hb9.mono hB8.out.size)
    go_wp2_with (go_at_call 19; fail)
    refine (swakes_any _).mono ?_
    rintro e w10 ⟨rfl, hb10⟩
    go_wp2_with fail
    go_ret
    exact ⟨rfl, hB9.out.trans (hb10.mono hB9.out.size)⟩
  · have HL1 : Hid (∀ (W : World), Below w.heap.size w W → _) := fun W hW => HLG.out true W hW hl
    clear hl HLG h hr hm
    simp only [gmCells] at HL1 ⊢
    go_enter Try.func4, Try.ntmps4
    go_wp2_with (go_at_call 8; fail)
    refine (HL1.out _ hbW.out).mono ?_
    rintro e w1 ⟨rfl, hb1⟩
    have HB1 : Hid (Below w.heap.size w w1) := hbW.out.trans (hb1.mono hbW.out.size)
    go_wp2_with (go_at_call 19; fail)
    refine (swakes_any _).mono ?_
    rintro e w3 ⟨rfl, hb3⟩
    go_wp2_with fail
    go_ret
    exact ⟨rfl, HB1.out.trans (hb3.mono HB1.out.size)⟩
end Go.Proofs.Ytnphfhoknnnciaa
