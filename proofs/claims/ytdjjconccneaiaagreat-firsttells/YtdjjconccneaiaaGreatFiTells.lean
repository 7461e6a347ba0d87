/-
  The law FirstTells, walked: it returns true, of every grammar and list of numbers.
-/
import Derived.Test.YtdjjconccneaiaaGreatFiLaw
import Derived.Test.YtdjjconccneaiaaGreatFiDoc
import Derived.Test.YtdjjconccneaiaaGreatGrOwn
namespace Go.Proofs.YtdjjconccneaiaaGreat
open Go.RowKit Go.Conc

theorem wpFacts_skip8 {P : Program} {ops : Array Oper} {w0 : World} {Q : Exit → Act → World → Prop} {all ss : List Spec} {tl : List Oper} {o : Oper} {rest : List Oper} {vs : List Value} {a : Act} (hw : Region.wanted o (yielded ops a.tmps) = false)
    (h2 : wpFacts P ops Lat w0 Q all tl ss rest (vs ++ [undef]) (a.put o.dst undef)) : wpFacts P ops Lat w0 Q all tl (.val undef :: ss) (o :: rest) vs a :=
  ⟨fun w hR hd => by unfold StepF; rw [if_neg (by rw [hw]; simp)]; rfl, h2⟩
theorem Fi.rise_small (b : List Bool) : (Fi.rise b).length ≤ b.length := Fi.riseTo_len _ _
theorem Fi.ofG_small (g : Gr.Gm) (l : List Int) : (Fi.ofG g l).length ≤ g.terms.length := by
  unfold Fi.ofG
  split
  · exact Nat.le_trans (Fi.rise_small _) (by rw [Fi.ofL_len]; exact Nat.le_refl _)
  · exact Nat.zero_le _
theorem Fi.setsG_small (g : Gr.Gm) : (Fi.setsG g).length ≤ g.terms.length + g.names.length ∧ ∀ x ∈ Fi.setsG g, x.length ≤ g.terms.length := by
  unfold Fi.setsG
  split
  · refine ⟨by rw [List.length_map, (Fi.tab_shape g).len]; exact Nat.le_refl _, fun x hx => ?_⟩
    obtain ⟨r, hr, rfl⟩ := List.mem_map.1 hx
    exact Nat.le_trans (Fi.rise_small _) (by rw [(Fi.tab_shape g).each r hr]; exact Nat.le_refl _)
  · exact ⟨Nat.zero_le _, fun x hx => by simp at hx⟩

set_option maxRecDepth 100000 in
set_option maxHeartbeats 3200000 in
theorem firstTells_out (g : Gr.Gm) (A : GA) (ao : Option Addr) (c : Nat) (l : List Int) (w : World) (h : GmAt w.heap.size w g A) (hm : ∀ r ∈ g.rules, r.2.length ≤ maxLen) (hl : Gr.large g = true ∨ Gr.large g = false ∧ 200 < l.length) :
    Calls Tryz.prog 3 #[.agg (gmCells g A), .slice ao l.length c] w fun e w' => e = .returned (.bool true) ∧ Below w.heap.size w w' := by
  obtain ⟨ta, tc, na, nc, ra, rc⟩ := A
  have hbW : Hid (Below w.heap.size w (w.alloc (Obj.cells #[.slice ta g.terms.length tc, .slice na g.names.length nc, .slice ra g.rules.length rc] 25))) := (Below.refl _ w).alloc (Nat.le_refl _) _
  have HLG : Hid (∀ (r : Bool) (W : World), Below w.heap.size w W → Gr.large g = r → Calls Tryz.prog 7 #[.agg (gmCells g ⟨ta, tc, na, nc, ra, rc⟩)] W fun e w' => e = .returned (.bool r) ∧ Below W.heap.size W w') := fun r W hW hl => large_is r g _ W hm (h.later hW).size hl
  simp only [gmCells] at HLG ⊢
  clear h hm
  rcases hl with hl | ⟨hl, hlen⟩
  · have HL1 : Hid (∀ _ : Unit, _) := fun _ => HLG.out true _ hbW.out hl
    clear HLG hl
    go_enter Tryz.func3, Tryz.ntmps3
    go_wp2_with (first | (go_at_call 7; refine Calls.mono (HL1.out ()) ?_; rintro e w1 ⟨rfl, hb1⟩) | (go_at_call 8; refine Calls.mono (fwakes_any _) ?_; rintro e w3 ⟨rfl, hb3⟩))
    go_ret
    exact ⟨rfl, (hbW.out.trans (hb1.mono hbW.out.size)).trans (hb3.mono (hbW.out.trans (hb1.mono hbW.out.size)).size)⟩
  · have HL1 : Hid (∀ _ : Unit, _) := fun _ => HLG.out false _ hbW.out hl
    have hi : (200 : Int) < (l.length : Int) := by omega
    clear HLG hl
    go_enter Tryz.func3, Tryz.ntmps3
    go_wp2_with (first | (go_at_call 7; refine Calls.mono (HL1.out ()) ?_; rintro e w1 ⟨rfl, hb1⟩) | (go_at_call 8; refine Calls.mono (fwakes_any _) ?_; rintro e w3 ⟨rfl, hb3⟩))
    go_ret
    exact ⟨rfl, (hbW.out.trans (hb1.mono hbW.out.size)).trans (hb3.mono (hbW.out.trans (hb1.mono hbW.out.size)).size)⟩

set_option maxRecDepth 100000 in
set_option maxHeartbeats 6400000 in
theorem firstTells_in (g : Gr.Gm) (A : GA) (ao : Option Addr) (c : Nat) (l : List Int) (w : World) (h : GmAt w.heap.size w g A) (hm : ∀ r ∈ g.rules, r.2.length ≤ maxLen) (hi : IntsAt w.heap.size w ao l) (hl : Gr.large g = false) (hll : l.length ≤ 200) :
    Calls Tryz.prog 3 #[.agg (gmCells g A), .slice ao l.length c] w fun e w' => e = .returned (.bool true) ∧ Below w.heap.size w w' := by
  obtain ⟨ta, tc, na, nc, ra, rc⟩ := A
  obtain ⟨l1, l2, l3, _, _, l4⟩ := Gr.large_no hl
  have H4 : Hid (∀ r ∈ g.rules, r.2.length ≤ 4000) := fun r hr => Nat.le_of_lt (l4 r hr)
  have HM : Hid _ := hm
  have HG : Hid (GmAt w.heap.size w g ⟨ta, tc, na, nc, ra, rc⟩) := h
  have HI : Hid (IntsAt w.heap.size w ao l) := hi
  have hbW : Hid (Below w.heap.size w (w.alloc (Obj.cells #[.slice ta g.terms.length tc, .slice na g.names.length nc, .slice ra g.rules.length rc] 25))) := (Below.refl _ w).alloc (Nat.le_refl _) _
  have b0 : Hid ((w.alloc (Obj.cells #[.slice ta g.terms.length tc, .slice na g.names.length nc, .slice ra g.rules.length rc] 25)).heap[w.heap.size]? = some (.cells #[.slice ta g.terms.length tc, .slice na g.names.length nc, .slice ra g.rules.length rc] 25 (0, 0))) := heap_alloc_new w _
  have HL1 : Hid (∀ (W : World), Below w.heap.size w W → Calls Tryz.prog 7 #[.agg (gmCells g ⟨ta, tc, na, nc, ra, rc⟩)] W fun e w' => e = .returned (.bool false) ∧ Below W.heap.size W w') := fun W hW => large_is false g _ W hm (h.later hW).size hl
  have HOW : Hid (∀ (W : World), Below w.heap.size w W → Calls Tryz.prog 9 #[.agg (gmCells g ⟨ta, tc, na, nc, ra, rc⟩)] W fun e w' => ∃ A', e = .returned (.agg (gmCells g A')) ∧ Hid (GmOwn W.heap.size w' g A') ∧ Hid (Below W.heap.size W w')) := fun W hW => (own_is g _ W l1 l2 (by omega) H4.out (h.later hW).size).mono fun e w' ⟨A', h1, h2, h3, _⟩ => ⟨A', h1, h2, h3⟩
  have hli : ¬ (200 : Int) < (l.length : Int) := by omega
  simp only [gmCells] at HL1 HOW ⊢
  clear h hm hi l4
  go_enter Tryz.func3, Tryz.ntmps3
  go_wp2_with (go_at_call 7; fail)
  generalize (w.alloc (Obj.cells #[.slice ta g.terms.length tc, .slice na g.names.length nc, .slice ra g.rules.length rc] 25)) = W at *
  refine Calls.mono (HL1.out _ hbW.out) ?_
  rintro e w1 ⟨rfl, hb1⟩
  have b1 : Hid _ := (hb1.block _ (Array.getElem?_eq_some_iff.1 b0.out).1).trans b0.out
  have HB1 : Hid (Below w.heap.size w w1) := hbW.out.trans (hb1.mono hbW.out.size)
  obtain ⟨g0, g1, g2, _⟩ := cells_three_z b1.out
  clear hb1 b0 hbW HL1
  go_wp2_with (go_at_call 9; fail)
  refine Calls.mono (HOW.out _ HB1.out) ?_
  rintro e w2 ⟨⟨ta2, tc2, na2, nc2, ra2, rc2⟩, rfl, ho2, hb2⟩
  have b2 : Hid _ := (hb2.out.block _ (Array.getElem?_eq_some_iff.1 b1.out).1).trans b1.out
  have HB2 : Hid (Below w.heap.size w w2) := HB1.out.trans (hb2.out.mono HB1.out.size)
  clear g0 g1 g2 b1 HB1 hb2 HOW
  have hbE : Hid (Below w2.heap.size w2 (w2.alloc (.cells #[] 3))) := (Below.refl _ w2).alloc (Nat.le_refl _) _
  simp only []
  iterate 8 go_step
  refine wp_copy_ints (.tmp 20) (.tmp 21) rfl w2.heap.size _ rfl (Empty.new w2.heap.size 3 w2 (Nat.le_refl _)) ao c l rfl (HI.out.later (HB2.out.trans (hbE.out.mono HB2.out.size))).size (by omega) ?_
  intro v3 w3 hL3 ho3 _
  obtain ⟨a8, c8, rfl, _, hc8, _⟩ := OwnInts.read ho3
  have HO3 : Hid _ := ho3
  have HL3 : Hid (Below w2.heap.size w2 w3) := hbE.out.trans (Below.mono hL3 hbE.out.size)
  clear ho3 hL3 hbE
  go_wp2_with fail
  have hb4 : Hid (Below w3.heap.size w3 (w3.alloc (Obj.cells #[.slice ta2 g.terms.length tc2, .slice na2 g.names.length nc2, .slice ra2 g.rules.length rc2] 25))) := (Below.refl _ w3).alloc (Nat.le_refl _) _
  have k7 : Hid ((w3.alloc (Obj.cells #[.slice ta2 g.terms.length tc2, .slice na2 g.names.length nc2, .slice ra2 g.rules.length rc2] 25)).heap[w3.heap.size]? = some (.cells #[.slice ta2 g.terms.length tc2, .slice na2 g.names.length nc2, .slice ra2 g.rules.length rc2] 25 (0, 0))) := heap_alloc_new w3 _
  have HL4 : Hid (Below w2.heap.size w2 (w3.alloc (Obj.cells #[.slice ta2 g.terms.length tc2, .slice na2 g.names.length nc2, .slice ra2 g.rules.length rc2] 25))) := HL3.out.trans (hb4.out.mono HL3.out.size)
  have k3 : Hid _ := (HL4.out.block _ (Array.getElem?_eq_some_iff.1 b2.out).1).trans b2.out
  have ho4 : Hid (GmOwn _ (w3.alloc (Obj.cells #[.slice ta2 g.terms.length tc2, .slice na2 g.names.length nc2, .slice ra2 g.rules.length rc2] 25)) g ⟨ta2, tc2, na2, nc2, ra2, rc2⟩) := ho2.out.below HL4.out
  have HB4 : Hid (Below w.heap.size w (w3.alloc (Obj.cells #[.slice ta2 g.terms.length tc2, .slice na2 g.names.length nc2, .slice ra2 g.rules.length rc2] 25))) := HB2.out.trans (HL4.out.mono HB2.out.size)
  have hi8 : Hid (IntsAt (w3.alloc (Obj.cells #[.slice ta2 g.terms.length tc2, .slice na2 g.names.length nc2, .slice ra2 g.rules.length rc2] 25)).heap.size (w3.alloc (Obj.cells #[.slice ta2 g.terms.length tc2, .slice na2 g.names.length nc2, .slice ra2 g.rules.length rc2] 25)) a8 l) := by
    obtain ⟨ao', c', e', h', _⟩ := OwnInts.read HO3.out
    cases e'
    exact IntsAt.size (IntsAt.later h' hb4.out)
  generalize (w3.alloc (Obj.cells #[.slice ta2 g.terms.length tc2, .slice na2 g.names.length nc2, .slice ra2 g.rules.length rc2] 25)) = W4 at *
  generalize w3.heap.size = B7 at *
  clear hb4 HL4 HL3 HO3 ho2 b2 HB2
  have hi4 : IntsAt W4.heap.size W4 a8 l := hi8.out
  have HOF : Hid (∀ kk : Int, (if Fi.okG g l = true then 0 else 1) = kk → _) := fun kk hkk => fof_is g ⟨ta2, tc2, na2, nc2, ra2, rc2⟩ l a8 c8 kk W4 HM.out ho4.out.at hi4 (by omega) hc8 hkk
  have HORF : Hid (∀ W : World, Below w.heap.size w W → _) := fun W hW => refOf8_is g ⟨ta, tc, na, nc, ra, rc⟩ l ao c W HM.out (HG.out.next hW) (HI.out.later hW).size (by omega)
  simp only [gmCells] at HOF HORF
  have hsl := Fi.setsG_small g
  have HSL : Hid ((Fi.setsG g).length ≤ 10000 ∧ ∀ x ∈ Fi.setsG g, x.length ≤ 4000) := ⟨Nat.le_trans hsl.1 (by omega), fun x hx => Nat.le_trans (hsl.2 x hx) l1⟩
  have hosl : (Fi.ofG g l).length ≤ 4000 := Nat.le_trans (Fi.ofG_small g l) l1
  clear hi4 hsl
  obtain ⟨d0, d1, d2, _⟩ := cells_three_z k7.out
  have hz7 := (Array.getElem?_eq_some_iff.1 k7.out).1
  cases hok : Fi.okG g l
  · have HOF1 : Hid _ := HOF.out 1 (by rw [hok]; rfl)
    clear HOF
    go_wp2_with (go_at_call 10; fail)
    refine Calls.mono HOF1.out ?_
    rintro e w5 ⟨pa, pc, rfl, hpa, hb5⟩
    have HB5 : Hid (Below w.heap.size w w5) := HB4.out.trans (hb5.out.mono HB4.out.size)
    have k3b : Hid _ := (hb5.out.block _ (Array.getElem?_eq_some_iff.1 k3.out).1).trans k3.out
    have k7b : Hid _ := (hb5.out.block _ (Array.getElem?_eq_some_iff.1 k7.out).1).trans k7.out
    have ho5 : Hid _ := ho4.out.below hb5.out
    have hi5 : Hid (IntsAt w5.heap.size w5 a8 l) := IntsAt.size (IntsAt.later hi8.out hb5.out)
    have HOR1 : Hid _ := HORF.out w5 HB5.out
    rw [hok] at HOR1
    clear d0 d1 d2 hz7 HORF hb5 k3 k7 ho4 hi8 HOF1
    obtain ⟨d0, d1, d2, _⟩ := cells_three_z k3b.out
    have hz3 := (Array.getElem?_eq_some_iff.1 k3b.out).1
    go_wp2_with (go_at_call 11; fail)
    refine Calls.mono HOR1.out ?_
    rintro e w6 ⟨po, qc, rfl, hpo, hb6⟩
    have hb7 : Hid (Below w6.heap.size w6 (w6.alloc (Obj.cells #[.slice po (Fi.ofG g l).length qc, .bool false] 34))) := (Below.refl _ w6).alloc (Nat.le_refl _) _
    have k9 : Hid ((w6.alloc (Obj.cells #[.slice po (Fi.ofG g l).length qc, .bool false] 34)).heap[w6.heap.size]? = some (.cells #[.slice po (Fi.ofG g l).length qc, .bool false] 34 (0, 0))) := heap_alloc_new w6 _
    have hb57 : Hid (Below w5.heap.size w5 (w6.alloc (Obj.cells #[.slice po (Fi.ofG g l).length qc, .bool false] 34))) := hb6.out.trans (hb7.out.mono hb6.out.size)
    have HB6 : Hid (Below w.heap.size w (w6.alloc (Obj.cells #[.slice po (Fi.ofG g l).length qc, .bool false] 34))) := HB5.out.trans (hb57.out.mono HB5.out.size)
    have k3c : Hid _ := (hb57.out.block _ (Array.getElem?_eq_some_iff.1 k3b.out).1).trans k3b.out
    have k7c : Hid _ := (hb57.out.block _ (Array.getElem?_eq_some_iff.1 k7b.out).1).trans k7b.out
    have ho6 : Hid _ := ho5.out.below hb57.out
    have hi6 : Hid (IntsAt _ _ a8 l) := IntsAt.size (IntsAt.later hi5.out hb57.out)
    have hpa6 : Hid (IntsAt _ _ pa (Fi.ofG g l)) := IntsAt.size (IntsAt.later hpa.out hb57.out)
    have hpo6 : Hid (IntsAt _ _ po (Fi.ofG g l)) := IntsAt.size (IntsAt.later hpo.out hb7.out)
    go_upto_region 6 with fail
    generalize (w6.alloc (Obj.cells #[.slice po (Fi.ofG g l).length qc, .bool false] 34)) = W6 at *
    generalize w6.heap.size = B9 at *
    generalize Fi.ofG g l = os at *
    clear hb57 hb6 hb7 hpa hpo hi5 ho5 HB5 k3b k7b HOR1 d0 d1 d2 hz3
    have HC7 : Hid (∀ w1 : World, Lat W6.drew w1 → w1.cell? ⟨B7, 0, none⟩ = some (.slice ta2 g.terms.length tc2) ∧ w1.cell? ⟨B7, 1, none⟩ = some (.slice na2 g.names.length nc2) ∧ w1.cell? ⟨B7, 2, none⟩ = some (.slice ra2 g.rules.length rc2)) := fun w1 hL => by
      have h := cells_three_z ((hL.of_drew.block _ (Array.getElem?_eq_some_iff.1 k7c.out).1).trans k7c.out)
      exact ⟨h.1, h.2.1, h.2.2.1⟩
    have HC3 : Hid (∀ w1 : World, Lat W6.drew w1 → w1.cell? ⟨w.heap.size, 0, none⟩ = some (.slice ta g.terms.length tc) ∧ w1.cell? ⟨w.heap.size, 1, none⟩ = some (.slice na g.names.length nc) ∧ w1.cell? ⟨w.heap.size, 2, none⟩ = some (.slice ra g.rules.length rc)) := fun w1 hL => by
      have h := cells_three_z ((hL.of_drew.block _ (Array.getElem?_eq_some_iff.1 k3c.out).1).trans k3c.out)
      exact ⟨h.1, h.2.1, h.2.2.1⟩
    have HC9 : Hid (∀ w1 : World, Lat W6.drew w1 → w1.cell? ⟨B9, 0, none⟩ = some (.slice po os.length qc) ∧ w1.cell? ⟨B9, 1, none⟩ = some (.bool false)) := fun w1 hL => by
      have h := cells_two_z ((hL.of_drew.block _ (Array.getElem?_eq_some_iff.1 k9.out).1).trans k9.out)
      exact ⟨h.1, h.2.1⟩
    have hgI : Hid (∀ w1 : World, Lat W6.drew w1 → GmAt w1.heap.size w1 g ⟨ta2, tc2, na2, nc2, ra2, rc2⟩) := fun w1 hL => (ho6.out.below hL.of_drew).at
    have hgR : Hid (∀ w1 : World, Lat W6.drew w1 → GmAt w1.heap.size w1 g ⟨ta, tc, na, nc, ra, rc⟩) := fun w1 hL => HG.out.next (HB6.out.trans (Below.mono hL.of_drew HB6.out.size))
    have hlI : Hid (∀ w1 : World, Lat W6.drew w1 → IntsAt w1.heap.size w1 a8 l) := fun w1 hL => IntsAt.size (IntsAt.later hi6.out hL.of_drew)
    have hlR : Hid (∀ w1 : World, Lat W6.drew w1 → IntsAt w1.heap.size w1 ao l) := fun w1 hL => IntsAt.size (IntsAt.later HI.out (HB6.out.trans (Below.mono hL.of_drew HB6.out.size)))
    have HSI : Hid (∀ w1 : World, Lat W6.drew w1 → _) := fun w1 hL => fsets_is g _ w1 HM.out (hgI.out w1 hL)
    have HSR : Hid (∀ w1 : World, Lat W6.drew w1 → _) := fun w1 hL => refSets8_is g _ w1 HM.out (hgR.out w1 hL)
    have HKO : Hid (∀ w1 : World, Lat W6.drew w1 → Calls Tryz.prog 15 #[.slice pa os.length pc, .slice po os.length qc] w1 fun e w' => e = .returned (.bool true) ∧ Below w1.heap.size w1 w') := fun w1 hL => (keepInts_same os hosl pa po pc qc w1 (IntsAt.size (IntsAt.later hpa6.out hL.of_drew)) (IntsAt.size (IntsAt.later hpo6.out hL.of_drew))).mono fun e w' ⟨h1, n, h2⟩ => ⟨h1, by rw [h2]; exact below_drewN (Below.refl _ w1) n⟩
    have HKG : Hid (∀ w1 : World, Lat W6.drew w1 → Calls Tryz.prog 16 #[.agg (gmCells g ⟨ta2, tc2, na2, nc2, ra2, rc2⟩), .agg (gmCells g ⟨ta, tc, na, nc, ra, rc⟩)] w1 fun e w' => e = .returned (.bool true) ∧ Below w1.heap.size w1 w') := fun w1 hL => keepGrammar_same g _ _ w1 ⟨l1, l2, by omega⟩ H4.out (hgI.out w1 hL) (hgR.out w1 hL)
    have HKI : Hid (∀ w1 : World, Lat W6.drew w1 → Calls Tryz.prog 15 #[.slice a8 l.length c8, .slice ao l.length c] w1 fun e w' => e = .returned (.bool true) ∧ Below w1.heap.size w1 w') := fun w1 hL => (keepInts_same l (by omega) a8 ao c8 c w1 (hlI.out w1 hL) (hlR.out w1 hL)).mono fun e w' ⟨h1, n, h2⟩ => ⟨h1, by rw [h2]; exact below_drewN (Below.refl _ w1) n⟩
    simp only [gmCells] at HSI HSR HKG
    clear hgI hgR hlI hlR k7c k3c k9 ho6 hi6 hpa6 hpo6 HG HI H4 HM hli
    refine wp_region_lat [.val (.agg #[.slice ta2 g.terms.length tc2, .slice na2 g.names.length nc2, .slice ra2 g.rules.length rc2]), .fact (fun v w' => ∃ xo xc, v = .slice xo (Fi.setsG g).length xc ∧ LisAt w'.heap.size w' xo (Fi.setsG g)), .val (.agg #[.slice ta g.terms.length tc, .slice na g.names.length nc, .slice ra g.rules.length rc]), .fact (fun v w' => ∃ xo xc, v = .slice xo (Fi.setsG g).length xc ∧ LisAt w'.heap.size w' xo (Fi.setsG g)), .val (.bool true), .val (.bool true), .val (.slice pa os.length pc), .val (.pointer (some ⟨B9, 0, none⟩)), .val (.slice po os.length qc), .val (.bool true), .val (.bool true), .val (.bool true), .val (.int .i64 1), .val (.bool false), .val (.pointer (some ⟨B9, 1, none⟩)), .val (.bool false), .val (.bool true), .val (.bool true), .val (.bool true), .val (.pointer (some ⟨B9, 1, none⟩)), .val (.bool false), .val (.bool false), .val (.int .i64 1), .val (.bool true), .val (.bool true), .val (.bool true), .val (.bool true), .val (.agg #[.slice ta2 g.terms.length tc2, .slice na2 g.names.length nc2, .slice ra2 g.rules.length rc2]), .val (.agg #[.slice ta g.terms.length tc, .slice na g.names.length nc, .slice ra g.rules.length rc]), .val (.bool true), .val (.bool true), .val (.bool true), .val (.slice a8 l.length c8), .val (.slice ao l.length c), .val (.bool true), .val (.bool true), .val (.bool true), .val (.bool true), .val (.bool true)] [_] (by kernel_rfl) (by kernel_rfl) rfl ?kept ?walk
    case kept => exact ⟨fun v w1 w2 hL ⟨bo, bc, e, h1⟩ => ⟨bo, bc, e, h1.next hL⟩, fun v w1 w2 hL ⟨bo, bc, e, h1⟩ => ⟨bo, bc, e, h1.next hL⟩, trivial⟩
    case walk =>
      refine wpFacts_val (by rfl) (fun w1 hL hd K hK => ?_) ?_
      · obtain ⟨d0, d1, d2⟩ := HC7.out w1 hL
        go_simp
        exact hK _ (Lat.refl _)
      refine wpFacts_norm (by simp only [Act.put, List.setIfInBounds_toArray, List.set_cons_zero, List.set_cons_succ]; rfl) (by simp only [List.nil_append]; rfl) ?_
      refine wpFacts_fact (by rfl) (fun w1 hL hd K hK => ?_) (fun v1 => ?_)
      · go_simp
        refine Calls.mono (HSI.out w1 hL) ?_
        rintro e w9 ⟨bo, bc, rfl, hb8, hb9⟩
        exact hK _ _ hb9.out ⟨bo, bc, rfl, hb8.out⟩
      refine wpFacts_norm (by simp only [Act.put, List.setIfInBounds_toArray, List.set_cons_zero, List.set_cons_succ]; rfl) (by simp only [List.cons_append, List.nil_append]; rfl) ?_
      refine wpFacts_val (by rfl) (fun w1 hL hd K hK => ?_) ?_
      · obtain ⟨d0, d1, d2⟩ := HC3.out w1 hL
        go_simp
        exact hK _ (Lat.refl _)
      refine wpFacts_norm (by simp only [Act.put, List.setIfInBounds_toArray, List.set_cons_zero, List.set_cons_succ]; rfl) (by simp only [List.cons_append, List.nil_append]; rfl) ?_
      refine wpFacts_fact (by rfl) (fun w1 hL hd K hK => ?_) (fun v3 => ?_)
      · go_simp
        refine Calls.mono (HSR.out w1 hL) ?_
        rintro e w9 ⟨bo, bc, rfl, hb8, hb9⟩
        exact hK _ _ hb9.out ⟨bo, bc, rfl, hb8.out⟩
      refine wpFacts_norm (by simp only [Act.put, List.setIfInBounds_toArray, List.set_cons_zero, List.set_cons_succ]; rfl) (by simp only [List.cons_append, List.nil_append]; rfl) ?_
      refine wpFacts_val (by rfl) (fun w1 hL hd K hK => ?_) ?_
      · obtain ⟨b1, e1, rfl, q1⟩ : ∃ xo xc, v1 = .slice xo (Fi.setsG g).length xc ∧ LisAt w1.heap.size w1 xo (Fi.setsG g) := hd.1
        obtain ⟨b3, e3, rfl, q3⟩ : ∃ xo xc, v3 = .slice xo (Fi.setsG g).length xc ∧ LisAt w1.heap.size w1 xo (Fi.setsG g) := hd.2.1
        have HQ : Hid _ := keepLists_same (Fi.setsG g) HSL.out.1 HSL.out.2 b1 b3 e1 e3 w1 q1 q3
        clear q1 q3 hd
        go_simp
        refine Calls.mono HQ.out ?_
        rintro e w9 ⟨rfl, hb9⟩
        exact hK _ hb9
      refine wpFacts_norm (by simp only [Act.put, List.setIfInBounds_toArray, List.set_cons_zero, List.set_cons_succ]; rfl) (by simp only [List.cons_append, List.nil_append]; rfl) ?_
      refine wpFacts_val (by rfl) (fun w1 hL hd K hK => ?_) ?_
      · go_simp
        exact hK _ (Lat.refl _)
      refine wpFacts_norm (by simp only [Act.put, List.setIfInBounds_toArray, List.set_cons_zero, List.set_cons_succ]; rfl) (by simp only [List.cons_append, List.nil_append]; rfl) ?_
      refine wpFacts_val (by rfl) (fun w1 hL hd K hK => ?_) ?_
      · go_simp
        exact hK _ (Lat.refl _)
      refine wpFacts_norm (by simp only [Act.put, List.setIfInBounds_toArray, List.set_cons_zero, List.set_cons_succ]; rfl) (by simp only [List.cons_append, List.nil_append]; rfl) ?_
      refine wpFacts_val (by rfl) (fun w1 hL hd K hK => ?_) ?_
      · go_simp
        exact hK _ (Lat.refl _)
      refine wpFacts_norm (by simp only [Act.put, List.setIfInBounds_toArray, List.set_cons_zero, List.set_cons_succ]; rfl) (by simp only [List.cons_append, List.nil_append]; rfl) ?_
      refine wpFacts_val (by rfl) (fun w1 hL hd K hK => ?_) ?_
      · obtain ⟨d0, d1⟩ := HC9.out w1 hL
        go_simp
        exact hK _ (Lat.refl _)
      refine wpFacts_norm (by simp only [Act.put, List.setIfInBounds_toArray, List.set_cons_zero, List.set_cons_succ]; rfl) (by simp only [List.cons_append, List.nil_append]; rfl) ?_
      refine wpFacts_val (by rfl) (fun w1 hL hd K hK => ?_) ?_
      · go_simp
        refine Calls.mono (HKO.out w1 hL) ?_
        rintro e w9 ⟨rfl, hb9⟩
        exact hK _ hb9
      refine wpFacts_norm (by simp only [Act.put, List.setIfInBounds_toArray, List.set_cons_zero, List.set_cons_succ]; rfl) (by simp only [List.cons_append, List.nil_append]; rfl) ?_
      refine wpFacts_val (by rfl) (fun w1 hL hd K hK => ?_) ?_
      · go_simp
        exact hK _ (Lat.refl _)
      refine wpFacts_norm (by simp only [Act.put, List.setIfInBounds_toArray, List.set_cons_zero, List.set_cons_succ]; rfl) (by simp only [List.cons_append, List.nil_append]; rfl) ?_
      refine wpFacts_val (by rfl) (fun w1 hL hd K hK => ?_) ?_
      · go_simp
        exact hK _ (Lat.refl _)
      refine wpFacts_norm (by simp only [Act.put, List.setIfInBounds_toArray, List.set_cons_zero, List.set_cons_succ]; rfl) (by simp only [List.cons_append, List.nil_append]; rfl) ?_
      refine wpFacts_val (by rfl) (fun w1 hL hd K hK => ?_) ?_
      · go_simp
        exact hK _ (Lat.refl _)
      refine wpFacts_norm (by simp only [Act.put, List.setIfInBounds_toArray, List.set_cons_zero, List.set_cons_succ]; rfl) (by simp only [List.cons_append, List.nil_append]; rfl) ?_
      refine wpFacts_val (by rfl) (fun w1 hL hd K hK => ?_) ?_
      · go_simp
        exact hK _ (Lat.refl _)
      refine wpFacts_norm (by simp only [Act.put, List.setIfInBounds_toArray, List.set_cons_zero, List.set_cons_succ]; rfl) (by simp only [List.cons_append, List.nil_append]; rfl) ?_
      refine wpFacts_val (by rfl) (fun w1 hL hd K hK => ?_) ?_
      · go_simp
        exact hK _ (Lat.refl _)
      refine wpFacts_norm (by simp only [Act.put, List.setIfInBounds_toArray, List.set_cons_zero, List.set_cons_succ]; rfl) (by simp only [List.cons_append, List.nil_append]; rfl) ?_
      refine wpFacts_val (by rfl) (fun w1 hL hd K hK => ?_) ?_
      · obtain ⟨d0, d1⟩ := HC9.out w1 hL
        go_simp
        exact hK _ (Lat.refl _)
      refine wpFacts_norm (by simp only [Act.put, List.setIfInBounds_toArray, List.set_cons_zero, List.set_cons_succ]; rfl) (by simp only [List.cons_append, List.nil_append]; rfl) ?_
      refine wpFacts_val (by rfl) (fun w1 hL hd K hK => ?_) ?_
      · go_simp
        exact hK _ (Lat.refl _)
      refine wpFacts_norm (by simp only [Act.put, List.setIfInBounds_toArray, List.set_cons_zero, List.set_cons_succ]; rfl) (by simp only [List.cons_append, List.nil_append]; rfl) ?_
      refine wpFacts_val (by rfl) (fun w1 hL hd K hK => ?_) ?_
      · go_simp
        exact hK _ (Lat.refl _)
      refine wpFacts_norm (by simp only [Act.put, List.setIfInBounds_toArray, List.set_cons_zero, List.set_cons_succ]; rfl) (by simp only [List.cons_append, List.nil_append]; rfl) ?_
      refine wpFacts_val (by rfl) (fun w1 hL hd K hK => ?_) ?_
      · go_simp
        exact hK _ (Lat.refl _)
      refine wpFacts_norm (by simp only [Act.put, List.setIfInBounds_toArray, List.set_cons_zero, List.set_cons_succ]; rfl) (by simp only [List.cons_append, List.nil_append]; rfl) ?_
      refine wpFacts_val (by rfl) (fun w1 hL hd K hK => ?_) ?_
      · go_simp
        exact hK _ (Lat.refl _)
      refine wpFacts_norm (by simp only [Act.put, List.setIfInBounds_toArray, List.set_cons_zero, List.set_cons_succ]; rfl) (by simp only [List.cons_append, List.nil_append]; rfl) ?_
      refine wpFacts_val (by rfl) (fun w1 hL hd K hK => ?_) ?_
      · obtain ⟨d0, d1⟩ := HC9.out w1 hL
        go_simp
        exact hK _ (Lat.refl _)
      refine wpFacts_norm (by simp only [Act.put, List.setIfInBounds_toArray, List.set_cons_zero, List.set_cons_succ]; rfl) (by simp only [List.cons_append, List.nil_append]; rfl) ?_
      refine wpFacts_val (by rfl) (fun w1 hL hd K hK => ?_) ?_
      · go_simp
        exact hK _ (Lat.refl _)
      refine wpFacts_norm (by simp only [Act.put, List.setIfInBounds_toArray, List.set_cons_zero, List.set_cons_succ]; rfl) (by simp only [List.cons_append, List.nil_append]; rfl) ?_
      refine wpFacts_val (by rfl) (fun w1 hL hd K hK => ?_) ?_
      · go_simp
        exact hK _ (Lat.refl _)
      refine wpFacts_norm (by simp only [Act.put, List.setIfInBounds_toArray, List.set_cons_zero, List.set_cons_succ]; rfl) (by simp only [List.cons_append, List.nil_append]; rfl) ?_
      refine wpFacts_val (by rfl) (fun w1 hL hd K hK => ?_) ?_
      · go_simp
        exact hK _ (Lat.refl _)
      refine wpFacts_norm (by simp only [Act.put, List.setIfInBounds_toArray, List.set_cons_zero, List.set_cons_succ]; rfl) (by simp only [List.cons_append, List.nil_append]; rfl) ?_
      refine wpFacts_val (by rfl) (fun w1 hL hd K hK => ?_) ?_
      · go_simp
        exact hK _ (Lat.refl _)
      refine wpFacts_norm (by simp only [Act.put, List.setIfInBounds_toArray, List.set_cons_zero, List.set_cons_succ]; rfl) (by simp only [List.cons_append, List.nil_append]; rfl) ?_
      refine wpFacts_val (by rfl) (fun w1 hL hd K hK => ?_) ?_
      · go_simp
        exact hK _ (Lat.refl _)
      refine wpFacts_norm (by simp only [Act.put, List.setIfInBounds_toArray, List.set_cons_zero, List.set_cons_succ]; rfl) (by simp only [List.cons_append, List.nil_append]; rfl) ?_
      refine wpFacts_val (by rfl) (fun w1 hL hd K hK => ?_) ?_
      · go_simp
        exact hK _ (Lat.refl _)
      refine wpFacts_norm (by simp only [Act.put, List.setIfInBounds_toArray, List.set_cons_zero, List.set_cons_succ]; rfl) (by simp only [List.cons_append, List.nil_append]; rfl) ?_
      refine wpFacts_val (by rfl) (fun w1 hL hd K hK => ?_) ?_
      · obtain ⟨d0, d1, d2⟩ := HC7.out w1 hL
        go_simp
        exact hK _ (Lat.refl _)
      refine wpFacts_norm (by simp only [Act.put, List.setIfInBounds_toArray, List.set_cons_zero, List.set_cons_succ]; rfl) (by simp only [List.cons_append, List.nil_append]; rfl) ?_
      refine wpFacts_val (by rfl) (fun w1 hL hd K hK => ?_) ?_
      · obtain ⟨d0, d1, d2⟩ := HC3.out w1 hL
        go_simp
        exact hK _ (Lat.refl _)
      refine wpFacts_norm (by simp only [Act.put, List.setIfInBounds_toArray, List.set_cons_zero, List.set_cons_succ]; rfl) (by simp only [List.cons_append, List.nil_append]; rfl) ?_
      refine wpFacts_val (by rfl) (fun w1 hL hd K hK => ?_) ?_
      · go_simp
        refine Calls.mono (HKG.out w1 hL) ?_
        rintro e w9 ⟨rfl, hb9⟩
        exact hK _ hb9
      refine wpFacts_norm (by simp only [Act.put, List.setIfInBounds_toArray, List.set_cons_zero, List.set_cons_succ]; rfl) (by simp only [List.cons_append, List.nil_append]; rfl) ?_
      refine wpFacts_val (by rfl) (fun w1 hL hd K hK => ?_) ?_
      · go_simp
        exact hK _ (Lat.refl _)
      refine wpFacts_norm (by simp only [Act.put, List.setIfInBounds_toArray, List.set_cons_zero, List.set_cons_succ]; rfl) (by simp only [List.cons_append, List.nil_append]; rfl) ?_
      refine wpFacts_val (by rfl) (fun w1 hL hd K hK => ?_) ?_
      · go_simp
        exact hK _ (Lat.refl _)
      refine wpFacts_norm (by simp only [Act.put, List.setIfInBounds_toArray, List.set_cons_zero, List.set_cons_succ]; rfl) (by simp only [List.cons_append, List.nil_append]; rfl) ?_
      refine wpFacts_val (by rfl) (fun w1 hL hd K hK => ?_) ?_
      · go_simp
        exact hK _ (Lat.refl _)
      refine wpFacts_norm (by simp only [Act.put, List.setIfInBounds_toArray, List.set_cons_zero, List.set_cons_succ]; rfl) (by simp only [List.cons_append, List.nil_append]; rfl) ?_
      refine wpFacts_val (by rfl) (fun w1 hL hd K hK => ?_) ?_
      · go_simp
        exact hK _ (Lat.refl _)
      refine wpFacts_norm (by simp only [Act.put, List.setIfInBounds_toArray, List.set_cons_zero, List.set_cons_succ]; rfl) (by simp only [List.cons_append, List.nil_append]; rfl) ?_
      refine wpFacts_val (by rfl) (fun w1 hL hd K hK => ?_) ?_
      · go_simp
        refine Calls.mono (HKI.out w1 hL) ?_
        rintro e w9 ⟨rfl, hb9⟩
        exact hK _ hb9
      refine wpFacts_norm (by simp only [Act.put, List.setIfInBounds_toArray, List.set_cons_zero, List.set_cons_succ]; rfl) (by simp only [List.cons_append, List.nil_append]; rfl) ?_
      refine wpFacts_val (by rfl) (fun w1 hL hd K hK => ?_) ?_
      · go_simp
        exact hK _ (Lat.refl _)
      refine wpFacts_norm (by simp only [Act.put, List.setIfInBounds_toArray, List.set_cons_zero, List.set_cons_succ]; rfl) (by simp only [List.cons_append, List.nil_append]; rfl) ?_
      refine wpFacts_val (by rfl) (fun w1 hL hd K hK => ?_) ?_
      · go_simp
        exact hK _ (Lat.refl _)
      refine wpFacts_norm (by simp only [Act.put, List.setIfInBounds_toArray, List.set_cons_zero, List.set_cons_succ]; rfl) (by simp only [List.cons_append, List.nil_append]; rfl) ?_
      refine wpFacts_val (by rfl) (fun w1 hL hd K hK => ?_) ?_
      · go_simp
        refine Calls.mono (fwakes_any w1) ?_
        rintro e w9 ⟨rfl, hb9⟩
        exact hK _ hb9
      refine wpFacts_norm (by simp only [Act.put, List.setIfInBounds_toArray, List.set_cons_zero, List.set_cons_succ]; rfl) (by simp only [List.cons_append, List.nil_append]; rfl) ?_
      refine wpFacts_val (by rfl) (fun w1 hL hd K hK => ?_) ?_
      · go_simp
        exact hK _ (Lat.refl _)
      refine wpFacts_norm (by simp only [Act.put, List.setIfInBounds_toArray, List.set_cons_zero, List.set_cons_succ]; rfl) (by simp only [List.cons_append, List.nil_append]; rfl) ?_
      intro w1 hL ha
      have HBf : Hid (Below w.heap.size w w1) := HB6.out.trans (Below.mono hL.of_drew HB6.out.size)
      clear ha hL HSI HSR HKO HKG HKI HC7 HC3 HC9 HB6 HSL
      go_wp2_with fail
      go_ret
      exact ⟨rfl, HBf.out⟩
  · have HOF1 : Hid _ := HOF.out 0 (by rw [hok]; rfl)
    clear HOF
    go_wp2_with (go_at_call 10; fail)
    refine Calls.mono HOF1.out ?_
    rintro e w5 ⟨pa, pc, rfl, hpa, hb5⟩
    have HB5 : Hid (Below w.heap.size w w5) := HB4.out.trans (hb5.out.mono HB4.out.size)
    have k3b : Hid _ := (hb5.out.block _ (Array.getElem?_eq_some_iff.1 k3.out).1).trans k3.out
    have k7b : Hid _ := (hb5.out.block _ (Array.getElem?_eq_some_iff.1 k7.out).1).trans k7.out
    have ho5 : Hid _ := ho4.out.below hb5.out
    have hi5 : Hid (IntsAt w5.heap.size w5 a8 l) := IntsAt.size (IntsAt.later hi8.out hb5.out)
    have HOR1 : Hid _ := HORF.out w5 HB5.out
    rw [hok] at HOR1
    clear d0 d1 d2 hz7 HORF hb5 k3 k7 ho4 hi8 HOF1
    obtain ⟨d0, d1, d2, _⟩ := cells_three_z k3b.out
    have hz3 := (Array.getElem?_eq_some_iff.1 k3b.out).1
    go_wp2_with (go_at_call 11; fail)
    refine Calls.mono HOR1.out ?_
    rintro e w6 ⟨po, qc, rfl, hpo, hb6⟩
    have hb7 : Hid (Below w6.heap.size w6 (w6.alloc (Obj.cells #[.slice po (Fi.ofG g l).length qc, .bool true] 34))) := (Below.refl _ w6).alloc (Nat.le_refl _) _
    have k9 : Hid ((w6.alloc (Obj.cells #[.slice po (Fi.ofG g l).length qc, .bool true] 34)).heap[w6.heap.size]? = some (.cells #[.slice po (Fi.ofG g l).length qc, .bool true] 34 (0, 0))) := heap_alloc_new w6 _
    have hb57 : Hid (Below w5.heap.size w5 (w6.alloc (Obj.cells #[.slice po (Fi.ofG g l).length qc, .bool true] 34))) := hb6.out.trans (hb7.out.mono hb6.out.size)
    have HB6 : Hid (Below w.heap.size w (w6.alloc (Obj.cells #[.slice po (Fi.ofG g l).length qc, .bool true] 34))) := HB5.out.trans (hb57.out.mono HB5.out.size)
    have k3c : Hid _ := (hb57.out.block _ (Array.getElem?_eq_some_iff.1 k3b.out).1).trans k3b.out
    have k7c : Hid _ := (hb57.out.block _ (Array.getElem?_eq_some_iff.1 k7b.out).1).trans k7b.out
    have ho6 : Hid _ := ho5.out.below hb57.out
    have hi6 : Hid (IntsAt _ _ a8 l) := IntsAt.size (IntsAt.later hi5.out hb57.out)
    have hpa6 : Hid (IntsAt _ _ pa (Fi.ofG g l)) := IntsAt.size (IntsAt.later hpa.out hb57.out)
    have hpo6 : Hid (IntsAt _ _ po (Fi.ofG g l)) := IntsAt.size (IntsAt.later hpo.out hb7.out)
    go_upto_region 6 with fail
    generalize (w6.alloc (Obj.cells #[.slice po (Fi.ofG g l).length qc, .bool true] 34)) = W6 at *
    generalize w6.heap.size = B9 at *
    generalize Fi.ofG g l = os at *
    clear hb57 hb6 hb7 hpa hpo hi5 ho5 HB5 k3b k7b HOR1 d0 d1 d2 hz3
    have HC7 : Hid (∀ w1 : World, Lat W6.drew w1 → w1.cell? ⟨B7, 0, none⟩ = some (.slice ta2 g.terms.length tc2) ∧ w1.cell? ⟨B7, 1, none⟩ = some (.slice na2 g.names.length nc2) ∧ w1.cell? ⟨B7, 2, none⟩ = some (.slice ra2 g.rules.length rc2)) := fun w1 hL => by
      have h := cells_three_z ((hL.of_drew.block _ (Array.getElem?_eq_some_iff.1 k7c.out).1).trans k7c.out)
      exact ⟨h.1, h.2.1, h.2.2.1⟩
    have HC3 : Hid (∀ w1 : World, Lat W6.drew w1 → w1.cell? ⟨w.heap.size, 0, none⟩ = some (.slice ta g.terms.length tc) ∧ w1.cell? ⟨w.heap.size, 1, none⟩ = some (.slice na g.names.length nc) ∧ w1.cell? ⟨w.heap.size, 2, none⟩ = some (.slice ra g.rules.length rc)) := fun w1 hL => by
      have h := cells_three_z ((hL.of_drew.block _ (Array.getElem?_eq_some_iff.1 k3c.out).1).trans k3c.out)
      exact ⟨h.1, h.2.1, h.2.2.1⟩
    have HC9 : Hid (∀ w1 : World, Lat W6.drew w1 → w1.cell? ⟨B9, 0, none⟩ = some (.slice po os.length qc) ∧ w1.cell? ⟨B9, 1, none⟩ = some (.bool true)) := fun w1 hL => by
      have h := cells_two_z ((hL.of_drew.block _ (Array.getElem?_eq_some_iff.1 k9.out).1).trans k9.out)
      exact ⟨h.1, h.2.1⟩
    have hgI : Hid (∀ w1 : World, Lat W6.drew w1 → GmAt w1.heap.size w1 g ⟨ta2, tc2, na2, nc2, ra2, rc2⟩) := fun w1 hL => (ho6.out.below hL.of_drew).at
    have hgR : Hid (∀ w1 : World, Lat W6.drew w1 → GmAt w1.heap.size w1 g ⟨ta, tc, na, nc, ra, rc⟩) := fun w1 hL => HG.out.next (HB6.out.trans (Below.mono hL.of_drew HB6.out.size))
    have hlI : Hid (∀ w1 : World, Lat W6.drew w1 → IntsAt w1.heap.size w1 a8 l) := fun w1 hL => IntsAt.size (IntsAt.later hi6.out hL.of_drew)
    have hlR : Hid (∀ w1 : World, Lat W6.drew w1 → IntsAt w1.heap.size w1 ao l) := fun w1 hL => IntsAt.size (IntsAt.later HI.out (HB6.out.trans (Below.mono hL.of_drew HB6.out.size)))
    have HSI : Hid (∀ w1 : World, Lat W6.drew w1 → _) := fun w1 hL => fsets_is g _ w1 HM.out (hgI.out w1 hL)
    have HSR : Hid (∀ w1 : World, Lat W6.drew w1 → _) := fun w1 hL => refSets8_is g _ w1 HM.out (hgR.out w1 hL)
    have HKO : Hid (∀ w1 : World, Lat W6.drew w1 → Calls Tryz.prog 15 #[.slice pa os.length pc, .slice po os.length qc] w1 fun e w' => e = .returned (.bool true) ∧ Below w1.heap.size w1 w') := fun w1 hL => (keepInts_same os hosl pa po pc qc w1 (IntsAt.size (IntsAt.later hpa6.out hL.of_drew)) (IntsAt.size (IntsAt.later hpo6.out hL.of_drew))).mono fun e w' ⟨h1, n, h2⟩ => ⟨h1, by rw [h2]; exact below_drewN (Below.refl _ w1) n⟩
    have HKG : Hid (∀ w1 : World, Lat W6.drew w1 → Calls Tryz.prog 16 #[.agg (gmCells g ⟨ta2, tc2, na2, nc2, ra2, rc2⟩), .agg (gmCells g ⟨ta, tc, na, nc, ra, rc⟩)] w1 fun e w' => e = .returned (.bool true) ∧ Below w1.heap.size w1 w') := fun w1 hL => keepGrammar_same g _ _ w1 ⟨l1, l2, by omega⟩ H4.out (hgI.out w1 hL) (hgR.out w1 hL)
    have HKI : Hid (∀ w1 : World, Lat W6.drew w1 → Calls Tryz.prog 15 #[.slice a8 l.length c8, .slice ao l.length c] w1 fun e w' => e = .returned (.bool true) ∧ Below w1.heap.size w1 w') := fun w1 hL => (keepInts_same l (by omega) a8 ao c8 c w1 (hlI.out w1 hL) (hlR.out w1 hL)).mono fun e w' ⟨h1, n, h2⟩ => ⟨h1, by rw [h2]; exact below_drewN (Below.refl _ w1) n⟩
    simp only [gmCells] at HSI HSR HKG
    clear hgI hgR hlI hlR k7c k3c k9 ho6 hi6 hpa6 hpo6 HG HI H4 HM hli
    refine wp_region_lat [.val (.agg #[.slice ta2 g.terms.length tc2, .slice na2 g.names.length nc2, .slice ra2 g.rules.length rc2]), .fact (fun v w' => ∃ xo xc, v = .slice xo (Fi.setsG g).length xc ∧ LisAt w'.heap.size w' xo (Fi.setsG g)), .val (.agg #[.slice ta g.terms.length tc, .slice na g.names.length nc, .slice ra g.rules.length rc]), .fact (fun v w' => ∃ xo xc, v = .slice xo (Fi.setsG g).length xc ∧ LisAt w'.heap.size w' xo (Fi.setsG g)), .val (.bool true), .val (.bool true), .val (.slice pa os.length pc), .val (.pointer (some ⟨B9, 0, none⟩)), .val (.slice po os.length qc), .val (.bool true), .val (.bool true), .val (.bool true), .val (.int .i64 0), .val (.bool true), .val (.pointer (some ⟨B9, 1, none⟩)), .val (.bool true), .val (.bool true), .val (.bool true), .val (.bool true), .val (.pointer (some ⟨B9, 1, none⟩)), .val (.bool true), .val (.bool true), .val undef, .val undef, .val (.bool true), .val (.bool true), .val (.bool true), .val (.agg #[.slice ta2 g.terms.length tc2, .slice na2 g.names.length nc2, .slice ra2 g.rules.length rc2]), .val (.agg #[.slice ta g.terms.length tc, .slice na g.names.length nc, .slice ra g.rules.length rc]), .val (.bool true), .val (.bool true), .val (.bool true), .val (.slice a8 l.length c8), .val (.slice ao l.length c), .val (.bool true), .val (.bool true), .val (.bool true), .val (.bool true), .val (.bool true)] [_] (by kernel_rfl) (by kernel_rfl) rfl ?kept ?walk
    case kept => exact ⟨fun v w1 w2 hL ⟨bo, bc, e, h1⟩ => ⟨bo, bc, e, h1.next hL⟩, fun v w1 w2 hL ⟨bo, bc, e, h1⟩ => ⟨bo, bc, e, h1.next hL⟩, trivial⟩
    case walk =>
      refine wpFacts_val (by rfl) (fun w1 hL hd K hK => ?_) ?_
      · obtain ⟨d0, d1, d2⟩ := HC7.out w1 hL
        go_simp
        exact hK _ (Lat.refl _)
      refine wpFacts_norm (by simp only [Act.put, List.setIfInBounds_toArray, List.set_cons_zero, List.set_cons_succ]; rfl) (by simp only [List.nil_append]; rfl) ?_
      refine wpFacts_fact (by rfl) (fun w1 hL hd K hK => ?_) (fun v1 => ?_)
      · go_simp
        refine Calls.mono (HSI.out w1 hL) ?_
        rintro e w9 ⟨bo, bc, rfl, hb8, hb9⟩
        exact hK _ _ hb9.out ⟨bo, bc, rfl, hb8.out⟩
      refine wpFacts_norm (by simp only [Act.put, List.setIfInBounds_toArray, List.set_cons_zero, List.set_cons_succ]; rfl) (by simp only [List.cons_append, List.nil_append]; rfl) ?_
      refine wpFacts_val (by rfl) (fun w1 hL hd K hK => ?_) ?_
      · obtain ⟨d0, d1, d2⟩ := HC3.out w1 hL
        go_simp
        exact hK _ (Lat.refl _)
      refine wpFacts_norm (by simp only [Act.put, List.setIfInBounds_toArray, List.set_cons_zero, List.set_cons_succ]; rfl) (by simp only [List.cons_append, List.nil_append]; rfl) ?_
      refine wpFacts_fact (by rfl) (fun w1 hL hd K hK => ?_) (fun v3 => ?_)
      · go_simp
        refine Calls.mono (HSR.out w1 hL) ?_
        rintro e w9 ⟨bo, bc, rfl, hb8, hb9⟩
        exact hK _ _ hb9.out ⟨bo, bc, rfl, hb8.out⟩
      refine wpFacts_norm (by simp only [Act.put, List.setIfInBounds_toArray, List.set_cons_zero, List.set_cons_succ]; rfl) (by simp only [List.cons_append, List.nil_append]; rfl) ?_
      refine wpFacts_val (by rfl) (fun w1 hL hd K hK => ?_) ?_
      · obtain ⟨b1, e1, rfl, q1⟩ : ∃ xo xc, v1 = .slice xo (Fi.setsG g).length xc ∧ LisAt w1.heap.size w1 xo (Fi.setsG g) := hd.1
        obtain ⟨b3, e3, rfl, q3⟩ : ∃ xo xc, v3 = .slice xo (Fi.setsG g).length xc ∧ LisAt w1.heap.size w1 xo (Fi.setsG g) := hd.2.1
        have HQ : Hid _ := keepLists_same (Fi.setsG g) HSL.out.1 HSL.out.2 b1 b3 e1 e3 w1 q1 q3
        clear q1 q3 hd
        go_simp
        refine Calls.mono HQ.out ?_
        rintro e w9 ⟨rfl, hb9⟩
        exact hK _ hb9
      refine wpFacts_norm (by simp only [Act.put, List.setIfInBounds_toArray, List.set_cons_zero, List.set_cons_succ]; rfl) (by simp only [List.cons_append, List.nil_append]; rfl) ?_
      refine wpFacts_val (by rfl) (fun w1 hL hd K hK => ?_) ?_
      · go_simp
        exact hK _ (Lat.refl _)
      refine wpFacts_norm (by simp only [Act.put, List.setIfInBounds_toArray, List.set_cons_zero, List.set_cons_succ]; rfl) (by simp only [List.cons_append, List.nil_append]; rfl) ?_
      refine wpFacts_val (by rfl) (fun w1 hL hd K hK => ?_) ?_
      · go_simp
        exact hK _ (Lat.refl _)
      refine wpFacts_norm (by simp only [Act.put, List.setIfInBounds_toArray, List.set_cons_zero, List.set_cons_succ]; rfl) (by simp only [List.cons_append, List.nil_append]; rfl) ?_
      refine wpFacts_val (by rfl) (fun w1 hL hd K hK => ?_) ?_
      · go_simp
        exact hK _ (Lat.refl _)
      refine wpFacts_norm (by simp only [Act.put, List.setIfInBounds_toArray, List.set_cons_zero, List.set_cons_succ]; rfl) (by simp only [List.cons_append, List.nil_append]; rfl) ?_
      refine wpFacts_val (by rfl) (fun w1 hL hd K hK => ?_) ?_
      · obtain ⟨d0, d1⟩ := HC9.out w1 hL
        go_simp
        exact hK _ (Lat.refl _)
      refine wpFacts_norm (by simp only [Act.put, List.setIfInBounds_toArray, List.set_cons_zero, List.set_cons_succ]; rfl) (by simp only [List.cons_append, List.nil_append]; rfl) ?_
      refine wpFacts_val (by rfl) (fun w1 hL hd K hK => ?_) ?_
      · go_simp
        refine Calls.mono (HKO.out w1 hL) ?_
        rintro e w9 ⟨rfl, hb9⟩
        exact hK _ hb9
      refine wpFacts_norm (by simp only [Act.put, List.setIfInBounds_toArray, List.set_cons_zero, List.set_cons_succ]; rfl) (by simp only [List.cons_append, List.nil_append]; rfl) ?_
      refine wpFacts_val (by rfl) (fun w1 hL hd K hK => ?_) ?_
      · go_simp
        exact hK _ (Lat.refl _)
      refine wpFacts_norm (by simp only [Act.put, List.setIfInBounds_toArray, List.set_cons_zero, List.set_cons_succ]; rfl) (by simp only [List.cons_append, List.nil_append]; rfl) ?_
      refine wpFacts_val (by rfl) (fun w1 hL hd K hK => ?_) ?_
      · go_simp
        exact hK _ (Lat.refl _)
      refine wpFacts_norm (by simp only [Act.put, List.setIfInBounds_toArray, List.set_cons_zero, List.set_cons_succ]; rfl) (by simp only [List.cons_append, List.nil_append]; rfl) ?_
      refine wpFacts_val (by rfl) (fun w1 hL hd K hK => ?_) ?_
      · go_simp
        exact hK _ (Lat.refl _)
      refine wpFacts_norm (by simp only [Act.put, List.setIfInBounds_toArray, List.set_cons_zero, List.set_cons_succ]; rfl) (by simp only [List.cons_append, List.nil_append]; rfl) ?_
      refine wpFacts_val (by rfl) (fun w1 hL hd K hK => ?_) ?_
      · go_simp
        exact hK _ (Lat.refl _)
      refine wpFacts_norm (by simp only [Act.put, List.setIfInBounds_toArray, List.set_cons_zero, List.set_cons_succ]; rfl) (by simp only [List.cons_append, List.nil_append]; rfl) ?_
      refine wpFacts_val (by rfl) (fun w1 hL hd K hK => ?_) ?_
      · go_simp
        exact hK _ (Lat.refl _)
      refine wpFacts_norm (by simp only [Act.put, List.setIfInBounds_toArray, List.set_cons_zero, List.set_cons_succ]; rfl) (by simp only [List.cons_append, List.nil_append]; rfl) ?_
      refine wpFacts_val (by rfl) (fun w1 hL hd K hK => ?_) ?_
      · obtain ⟨d0, d1⟩ := HC9.out w1 hL
        go_simp
        exact hK _ (Lat.refl _)
      refine wpFacts_norm (by simp only [Act.put, List.setIfInBounds_toArray, List.set_cons_zero, List.set_cons_succ]; rfl) (by simp only [List.cons_append, List.nil_append]; rfl) ?_
      refine wpFacts_val (by rfl) (fun w1 hL hd K hK => ?_) ?_
      · go_simp
        exact hK _ (Lat.refl _)
      refine wpFacts_norm (by simp only [Act.put, List.setIfInBounds_toArray, List.set_cons_zero, List.set_cons_succ]; rfl) (by simp only [List.cons_append, List.nil_append]; rfl) ?_
      refine wpFacts_val (by rfl) (fun w1 hL hd K hK => ?_) ?_
      · go_simp
        exact hK _ (Lat.refl _)
      refine wpFacts_norm (by simp only [Act.put, List.setIfInBounds_toArray, List.set_cons_zero, List.set_cons_succ]; rfl) (by simp only [List.cons_append, List.nil_append]; rfl) ?_
      refine wpFacts_val (by rfl) (fun w1 hL hd K hK => ?_) ?_
      · go_simp
        exact hK _ (Lat.refl _)
      refine wpFacts_norm (by simp only [Act.put, List.setIfInBounds_toArray, List.set_cons_zero, List.set_cons_succ]; rfl) (by simp only [List.cons_append, List.nil_append]; rfl) ?_
      refine wpFacts_val (by rfl) (fun w1 hL hd K hK => ?_) ?_
      · go_simp
        exact hK _ (Lat.refl _)
      refine wpFacts_norm (by simp only [Act.put, List.setIfInBounds_toArray, List.set_cons_zero, List.set_cons_succ]; rfl) (by simp only [List.cons_append, List.nil_append]; rfl) ?_
      refine wpFacts_val (by rfl) (fun w1 hL hd K hK => ?_) ?_
      · obtain ⟨d0, d1⟩ := HC9.out w1 hL
        go_simp
        exact hK _ (Lat.refl _)
      refine wpFacts_norm (by simp only [Act.put, List.setIfInBounds_toArray, List.set_cons_zero, List.set_cons_succ]; rfl) (by simp only [List.cons_append, List.nil_append]; rfl) ?_
      refine wpFacts_val (by rfl) (fun w1 hL hd K hK => ?_) ?_
      · go_simp
        exact hK _ (Lat.refl _)
      refine wpFacts_norm (by simp only [Act.put, List.setIfInBounds_toArray, List.set_cons_zero, List.set_cons_succ]; rfl) (by simp only [List.cons_append, List.nil_append]; rfl) ?_
      refine wpFacts_skip8 (by rfl) ?_
      refine wpFacts_norm (by simp only [Act.put, List.setIfInBounds_toArray, List.set_cons_zero, List.set_cons_succ]; rfl) (by simp only [List.cons_append, List.nil_append]; rfl) ?_
      refine wpFacts_skip8 (by rfl) ?_
      refine wpFacts_norm (by simp only [Act.put, List.setIfInBounds_toArray, List.set_cons_zero, List.set_cons_succ]; rfl) (by simp only [List.cons_append, List.nil_append]; rfl) ?_
      refine wpFacts_val (by rfl) (fun w1 hL hd K hK => ?_) ?_
      · go_simp
        exact hK _ (Lat.refl _)
      refine wpFacts_norm (by simp only [Act.put, List.setIfInBounds_toArray, List.set_cons_zero, List.set_cons_succ]; rfl) (by simp only [List.cons_append, List.nil_append]; rfl) ?_
      refine wpFacts_val (by rfl) (fun w1 hL hd K hK => ?_) ?_
      · go_simp
        exact hK _ (Lat.refl _)
      refine wpFacts_norm (by simp only [Act.put, List.setIfInBounds_toArray, List.set_cons_zero, List.set_cons_succ]; rfl) (by simp only [List.cons_append, List.nil_append]; rfl) ?_
      refine wpFacts_val (by rfl) (fun w1 hL hd K hK => ?_) ?_
      · go_simp
        exact hK _ (Lat.refl _)
      refine wpFacts_norm (by simp only [Act.put, List.setIfInBounds_toArray, List.set_cons_zero, List.set_cons_succ]; rfl) (by simp only [List.cons_append, List.nil_append]; rfl) ?_
      refine wpFacts_val (by rfl) (fun w1 hL hd K hK => ?_) ?_
      · obtain ⟨d0, d1, d2⟩ := HC7.out w1 hL
        go_simp
        exact hK _ (Lat.refl _)
      refine wpFacts_norm (by simp only [Act.put, List.setIfInBounds_toArray, List.set_cons_zero, List.set_cons_succ]; rfl) (by simp only [List.cons_append, List.nil_append]; rfl) ?_
      refine wpFacts_val (by rfl) (fun w1 hL hd K hK => ?_) ?_
      · obtain ⟨d0, d1, d2⟩ := HC3.out w1 hL
        go_simp
        exact hK _ (Lat.refl _)
      refine wpFacts_norm (by simp only [Act.put, List.setIfInBounds_toArray, List.set_cons_zero, List.set_cons_succ]; rfl) (by simp only [List.cons_append, List.nil_append]; rfl) ?_
      refine wpFacts_val (by rfl) (fun w1 hL hd K hK => ?_) ?_
      · go_simp
        refine Calls.mono (HKG.out w1 hL) ?_
        rintro e w9 ⟨rfl, hb9⟩
        exact hK _ hb9
      refine wpFacts_norm (by simp only [Act.put, List.setIfInBounds_toArray, List.set_cons_zero, List.set_cons_succ]; rfl) (by simp only [List.cons_append, List.nil_append]; rfl) ?_
      refine wpFacts_val (by rfl) (fun w1 hL hd K hK => ?_) ?_
      · go_simp
        exact hK _ (Lat.refl _)
      refine wpFacts_norm (by simp only [Act.put, List.setIfInBounds_toArray, List.set_cons_zero, List.set_cons_succ]; rfl) (by simp only [List.cons_append, List.nil_append]; rfl) ?_
      refine wpFacts_val (by rfl) (fun w1 hL hd K hK => ?_) ?_
      · go_simp
        exact hK _ (Lat.refl _)
      refine wpFacts_norm (by simp only [Act.put, List.setIfInBounds_toArray, List.set_cons_zero, List.set_cons_succ]; rfl) (by simp only [List.cons_append, List.nil_append]; rfl) ?_
      refine wpFacts_val (by rfl) (fun w1 hL hd K hK => ?_) ?_
      · go_simp
        exact hK _ (Lat.refl _)
      refine wpFacts_norm (by simp only [Act.put, List.setIfInBounds_toArray, List.set_cons_zero, List.set_cons_succ]; rfl) (by simp only [List.cons_append, List.nil_append]; rfl) ?_
      refine wpFacts_val (by rfl) (fun w1 hL hd K hK => ?_) ?_
      · go_simp
        exact hK _ (Lat.refl _)
      refine wpFacts_norm (by simp only [Act.put, List.setIfInBounds_toArray, List.set_cons_zero, List.set_cons_succ]; rfl) (by simp only [List.cons_append, List.nil_append]; rfl) ?_
      refine wpFacts_val (by rfl) (fun w1 hL hd K hK => ?_) ?_
      · go_simp
        refine Calls.mono (HKI.out w1 hL) ?_
        rintro e w9 ⟨rfl, hb9⟩
        exact hK _ hb9
      refine wpFacts_norm (by simp only [Act.put, List.setIfInBounds_toArray, List.set_cons_zero, List.set_cons_succ]; rfl) (by simp only [List.cons_append, List.nil_append]; rfl) ?_
      refine wpFacts_val (by rfl) (fun w1 hL hd K hK => ?_) ?_
      · go_simp
        exact hK _ (Lat.refl _)
      refine wpFacts_norm (by simp only [Act.put, List.setIfInBounds_toArray, List.set_cons_zero, List.set_cons_succ]; rfl) (by simp only [List.cons_append, List.nil_append]; rfl) ?_
      refine wpFacts_val (by rfl) (fun w1 hL hd K hK => ?_) ?_
      · go_simp
        exact hK _ (Lat.refl _)
      refine wpFacts_norm (by simp only [Act.put, List.setIfInBounds_toArray, List.set_cons_zero, List.set_cons_succ]; rfl) (by simp only [List.cons_append, List.nil_append]; rfl) ?_
      refine wpFacts_val (by rfl) (fun w1 hL hd K hK => ?_) ?_
      · go_simp
        refine Calls.mono (fwakes_any w1) ?_
        rintro e w9 ⟨rfl, hb9⟩
        exact hK _ hb9
      refine wpFacts_norm (by simp only [Act.put, List.setIfInBounds_toArray, List.set_cons_zero, List.set_cons_succ]; rfl) (by simp only [List.cons_append, List.nil_append]; rfl) ?_
      refine wpFacts_val (by rfl) (fun w1 hL hd K hK => ?_) ?_
      · go_simp
        exact hK _ (Lat.refl _)
      refine wpFacts_norm (by simp only [Act.put, List.setIfInBounds_toArray, List.set_cons_zero, List.set_cons_succ]; rfl) (by simp only [List.cons_append, List.nil_append]; rfl) ?_
      intro w1 hL ha
      have HBf : Hid (Below w.heap.size w w1) := HB6.out.trans (Below.mono hL.of_drew HB6.out.size)
      clear ha hL HSI HSR HKO HKG HKI HC7 HC3 HC9 HB6 HSL
      go_wp2_with fail
      go_ret
      exact ⟨rfl, HBf.out⟩

theorem firstTells_walk (g : Gr.Gm) (A : GA) (ao : Option Addr) (len c : Nat) (zs : List Int) (w : World) (h : GmAt w.heap.size w g A) (hr : ∀ r ∈ g.rules, r.2.length ≤ maxLen ∧ rlWf r) (hz : IsRow .i64 w ao len c zs) :
    Calls Tryz.prog 3 #[.agg (gmCells g A), .slice ao len c] w fun e w' => e = .returned (.bool true) ∧ Below w.heap.size w w' := by
  have hm : ∀ r ∈ g.rules, r.2.length ≤ maxLen := fun r h => (hr r h).1
  obtain ⟨xs, rfl, hx, _, _⟩ := hz.read
  cases hl : Gr.large g
  · by_cases h2 : 200 < xs.length
    · exact firstTells_out g A ao c xs w h hm (.inr ⟨hl, h2⟩)
    · exact firstTells_in g A ao c xs w h hm hx hl (by omega)
  · exact firstTells_out g A ao c xs w h hm (.inl hl)
end Go.Proofs.YtdjjconccneaiaaGreat
