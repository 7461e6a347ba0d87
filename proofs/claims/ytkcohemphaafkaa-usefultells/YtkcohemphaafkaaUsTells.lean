/-
  The law UsefulTells, walked: it returns true, of every grammar and number.
-/
import Derived.Test.YtkcohemphaafkaaUsLaw
import Derived.Test.YtkcohemphaafkaaGrOwn
namespace Go.Proofs.Ytkcohemphaafkaa
open Go.RowKit Go.Conc

set_option maxRecDepth 100000 in
set_option maxHeartbeats 3200000 in
theorem usefulTells_out (g : Gr.Gm) (A : GA) (i : Int) (w : World) (h : GmAt w.heap.size w g A) (hm : ∀ r ∈ g.rules, r.2.length ≤ maxLen) (hl : Gr.large g = true) :
    Calls Try.prog 3 #[.agg (gmCells g A), .int .i64 i] w fun e w' => e = .returned (.bool true) ∧ Below w.heap.size w w' := by
  obtain ⟨ta, tc, na, nc, ra, rc⟩ := A
  have hbW : Hid (Below w.heap.size w (w.alloc (Obj.cells #[.slice ta g.terms.length tc, .slice na g.names.length nc, .slice ra g.rules.length rc] 25))) := (Below.refl _ w).alloc (Nat.le_refl _) _
  have HL1 : Hid (Calls Try.prog 6 #[.agg (gmCells g ⟨ta, tc, na, nc, ra, rc⟩)] (w.alloc (Obj.cells #[.slice ta g.terms.length tc, .slice na g.names.length nc, .slice ra g.rules.length rc] 25)) fun e w' => e = .returned (.bool true) ∧ Below (w.alloc (Obj.cells #[.slice ta g.terms.length tc, .slice na g.names.length nc, .slice ra g.rules.length rc] 25)).heap.size (w.alloc (Obj.cells #[.slice ta g.terms.length tc, .slice na g.names.length nc, .slice ra g.rules.length rc] 25)) w') := large_is true g _ _ hm (h.later hbW.out).size hl
  simp only [gmCells] at HL1 ⊢
  clear h hm hl
  go_enter Try.func3, Try.ntmps3
  go_wp2_with (first | (go_at_call 6; refine Calls.mono HL1.out ?_; rintro e w1 ⟨rfl, hb1⟩) | (go_at_call 7; refine Calls.mono (uwakes_any _) ?_; rintro e w3 ⟨rfl, hb3⟩))
  go_ret
  exact ⟨rfl, (hbW.out.trans (hb1.mono hbW.out.size)).trans (hb3.mono (hbW.out.trans (hb1.mono hbW.out.size)).size)⟩

set_option maxRecDepth 100000 in
set_option maxHeartbeats 6400000 in
theorem usefulTells_in (g : Gr.Gm) (A : GA) (i : Int) (w : World) (h : GmAt w.heap.size w g A) (hm : ∀ r ∈ g.rules, r.2.length ≤ maxLen) (hl : Gr.large g = false) :
    Calls Try.prog 3 #[.agg (gmCells g A), .int .i64 i] w fun e w' => e = .returned (.bool true) ∧ Below w.heap.size w w' := by
  obtain ⟨ta, tc, na, nc, ra, rc⟩ := A
  obtain ⟨l1, l2, l3, _, _, l4⟩ := Gr.large_no hl
  have H4 : Hid (∀ r ∈ g.rules, r.2.length ≤ 4000) := fun r hr => Nat.le_of_lt (l4 r hr)
  have HM : Hid _ := hm
  have HG : Hid (GmAt w.heap.size w g ⟨ta, tc, na, nc, ra, rc⟩) := h
  have hbW : Hid (Below w.heap.size w (w.alloc (Obj.cells #[.slice ta g.terms.length tc, .slice na g.names.length nc, .slice ra g.rules.length rc] 25))) := (Below.refl _ w).alloc (Nat.le_refl _) _
  have b0 : Hid ((w.alloc (Obj.cells #[.slice ta g.terms.length tc, .slice na g.names.length nc, .slice ra g.rules.length rc] 25)).heap[w.heap.size]? = some (.cells #[.slice ta g.terms.length tc, .slice na g.names.length nc, .slice ra g.rules.length rc] 25 (0, 0))) := heap_alloc_new w _
  have HL1 : Hid (∀ (W : World), Below w.heap.size w W → Calls Try.prog 6 #[.agg (gmCells g ⟨ta, tc, na, nc, ra, rc⟩)] W fun e w' => e = .returned (.bool false) ∧ Below W.heap.size W w') := fun W hW => large_is false g _ W hm (h.later hW).size hl
  have HOW : Hid (∀ (W : World), Below w.heap.size w W → Calls Try.prog 8 #[.agg (gmCells g ⟨ta, tc, na, nc, ra, rc⟩)] W fun e w' => ∃ A', e = .returned (.agg (gmCells g A')) ∧ Hid (GmOwn W.heap.size w' g A') ∧ Hid (Below W.heap.size W w')) := fun W hW => (own_is g _ W l1 l2 (by omega) H4.out (h.later hW).size).mono fun e w' ⟨A', h1, h2, h3, _⟩ => ⟨A', h1, h2, h3⟩
  simp only [gmCells] at HL1 HOW ⊢
  clear h hm l4
  go_enter Try.func3, Try.ntmps3
  go_wp2_with (go_at_call 6; fail)
  generalize (w.alloc (Obj.cells #[.slice ta g.terms.length tc, .slice na g.names.length nc, .slice ra g.rules.length rc] 25)) = W at *
  refine Calls.mono (HL1.out _ hbW.out) ?_
  rintro e w1 ⟨rfl, hb1⟩
  have b1 : Hid _ := (hb1.block _ (Array.getElem?_eq_some_iff.1 b0.out).1).trans b0.out
  have HB1 : Hid (Below w.heap.size w w1) := hbW.out.trans (hb1.mono hbW.out.size)
  obtain ⟨g0, g1, g2, _⟩ := cells_three_z b1.out
  clear hb1 b0 hbW HL1
  go_wp2_with (go_at_call 8; fail)
  refine Calls.mono (HOW.out _ HB1.out) ?_
  rintro e w2 ⟨⟨ta2, tc2, na2, nc2, ra2, rc2⟩, rfl, ho2, hb2⟩
  have b2 : Hid _ := (hb2.out.block _ (Array.getElem?_eq_some_iff.1 b1.out).1).trans b1.out
  have HB2 : Hid (Below w.heap.size w w2) := HB1.out.trans (hb2.out.mono HB1.out.size)
  clear g0 g1 g2 b1 HB1 hb2 HOW
  have hb4 : Hid (Below w2.heap.size w2 (w2.alloc (Obj.cells #[.slice ta2 g.terms.length tc2, .slice na2 g.names.length nc2, .slice ra2 g.rules.length rc2] 25))) := (Below.refl _ w2).alloc (Nat.le_refl _) _
  have k7 : Hid ((w2.alloc (Obj.cells #[.slice ta2 g.terms.length tc2, .slice na2 g.names.length nc2, .slice ra2 g.rules.length rc2] 25)).heap[w2.heap.size]? = some (.cells #[.slice ta2 g.terms.length tc2, .slice na2 g.names.length nc2, .slice ra2 g.rules.length rc2] 25 (0, 0))) := heap_alloc_new w2 _
  have k3 : Hid _ := (hb4.out.block _ (Array.getElem?_eq_some_iff.1 b2.out).1).trans b2.out
  have ho4 : Hid (GmOwn _ (w2.alloc (Obj.cells #[.slice ta2 g.terms.length tc2, .slice na2 g.names.length nc2, .slice ra2 g.rules.length rc2] 25)) g ⟨ta2, tc2, na2, nc2, ra2, rc2⟩) := ho2.out.below hb4.out
  have HB4 : Hid (Below w.heap.size w (w2.alloc (Obj.cells #[.slice ta2 g.terms.length tc2, .slice na2 g.names.length nc2, .slice ra2 g.rules.length rc2] 25))) := HB2.out.trans (hb4.out.mono HB2.out.size)
  go_upto_region 4 with fail
  generalize (w2.alloc (Obj.cells #[.slice ta2 g.terms.length tc2, .slice na2 g.names.length nc2, .slice ra2 g.rules.length rc2] 25)) = W4 at *
  generalize w2.heap.size = B7 at *
  clear hb4 ho2 b2 HB2
  have HC7 : Hid (∀ w1 : World, Lat W4.drew w1 → w1.cell? ⟨B7, 0, none⟩ = some (.slice ta2 g.terms.length tc2) ∧ w1.cell? ⟨B7, 1, none⟩ = some (.slice na2 g.names.length nc2) ∧ w1.cell? ⟨B7, 2, none⟩ = some (.slice ra2 g.rules.length rc2)) := fun w1 hL => by
    have h := cells_three_z ((hL.of_drew.block _ (Array.getElem?_eq_some_iff.1 k7.out).1).trans k7.out)
    exact ⟨h.1, h.2.1, h.2.2.1⟩
  have HC3 : Hid (∀ w1 : World, Lat W4.drew w1 → w1.cell? ⟨w.heap.size, 0, none⟩ = some (.slice ta g.terms.length tc) ∧ w1.cell? ⟨w.heap.size, 1, none⟩ = some (.slice na g.names.length nc) ∧ w1.cell? ⟨w.heap.size, 2, none⟩ = some (.slice ra g.rules.length rc)) := fun w1 hL => by
    have h := cells_three_z ((hL.of_drew.block _ (Array.getElem?_eq_some_iff.1 k3.out).1).trans k3.out)
    exact ⟨h.1, h.2.1, h.2.2.1⟩
  have hgI : Hid (∀ w1 : World, Lat W4.drew w1 → GmAt w1.heap.size w1 g ⟨ta2, tc2, na2, nc2, ra2, rc2⟩) := fun w1 hL => (ho4.out.below hL.of_drew).at
  have hgR : Hid (∀ w1 : World, Lat W4.drew w1 → GmAt w1.heap.size w1 g ⟨ta, tc, na, nc, ra, rc⟩) := fun w1 hL => HG.out.next (HB4.out.trans (Below.mono hL.of_drew HB4.out.size))
  have HOI : Hid (∀ w1 : World, Lat W4.drew w1 → Calls Try.prog 10 #[.agg (gmCells g ⟨ta2, tc2, na2, nc2, ra2, rc2⟩), .int .i64 i] w1 fun e w' => ∃ ao c, e = .returned (.slice ao (Us.reach g i).length c) ∧ Hid (BoolsAt w'.heap.size w' ao (Us.reach g i)) ∧ Hid (Below w1.heap.size w1 w')) := fun w1 hL => ureach_is g _ i w1 ⟨by omega, by omega⟩ HM.out (hgI.out w1 hL)
  have HOR : Hid (∀ w1 : World, Lat W4.drew w1 → Calls Try.prog 11 #[.agg (gmCells g ⟨ta, tc, na, nc, ra, rc⟩), .int .i64 i] w1 fun e w' => ∃ ao c, e = .returned (.slice ao (Us.reach g i).length c) ∧ Hid (BoolsAt w'.heap.size w' ao (Us.reach g i)) ∧ Hid (Below w1.heap.size w1 w')) := fun w1 hL => refReach7_is g _ i w1 HM.out (hgR.out w1 hL)
  have HPI : Hid (∀ w1 : World, Lat W4.drew w1 → Calls Try.prog 12 #[.agg (gmCells g ⟨ta2, tc2, na2, nc2, ra2, rc2⟩)] w1 fun e w' => ∃ ao c, e = .returned (.slice ao (Us.prod g).length c) ∧ Hid (BoolsAt w'.heap.size w' ao (Us.prod g)) ∧ Hid (Below w1.heap.size w1 w')) := fun w1 hL => uprod_is g _ w1 HM.out (hgI.out w1 hL)
  have HPR : Hid (∀ w1 : World, Lat W4.drew w1 → Calls Try.prog 13 #[.agg (gmCells g ⟨ta, tc, na, nc, ra, rc⟩)] w1 fun e w' => ∃ ao c, e = .returned (.slice ao (Us.prod g).length c) ∧ Hid (BoolsAt w'.heap.size w' ao (Us.prod g)) ∧ Hid (Below w1.heap.size w1 w')) := fun w1 hL => refProd7_is g _ w1 HM.out (hgR.out w1 hL)
  have HUI : Hid (∀ w1 : World, Lat W4.drew w1 → Calls Try.prog 14 #[.agg (gmCells g ⟨ta2, tc2, na2, nc2, ra2, rc2⟩)] w1 fun e w' => ∃ ao c, e = .returned (.slice ao (Us.use g).length c) ∧ Hid (BoolsAt w'.heap.size w' ao (Us.use g)) ∧ Hid (Below w1.heap.size w1 w')) := fun w1 hL => uuse_is g _ w1 HM.out (hgI.out w1 hL)
  have HUR : Hid (∀ w1 : World, Lat W4.drew w1 → Calls Try.prog 15 #[.agg (gmCells g ⟨ta, tc, na, nc, ra, rc⟩)] w1 fun e w' => ∃ ao c, e = .returned (.slice ao (Us.use g).length c) ∧ Hid (BoolsAt w'.heap.size w' ao (Us.use g)) ∧ Hid (Below w1.heap.size w1 w')) := fun w1 hL => refUse7_is g _ w1 HM.out (hgR.out w1 hL)
  have HKG : Hid (∀ w1 : World, Lat W4.drew w1 → Calls Try.prog 16 #[.agg (gmCells g ⟨ta2, tc2, na2, nc2, ra2, rc2⟩), .agg (gmCells g ⟨ta, tc, na, nc, ra, rc⟩)] w1 fun e w' => e = .returned (.bool true) ∧ Below w1.heap.size w1 w') := fun w1 hL => keepGrammar_same g _ _ w1 ⟨l1, l2, by omega⟩ H4.out (hgI.out w1 hL) (hgR.out w1 hL)
  simp only [gmCells] at HOI HOR HPI HPR HUI HUR HKG
  clear hgI hgR k7 k3 ho4 HG H4 HM
  refine wp_region_lat [.val (.agg #[.slice ta2 g.terms.length tc2, .slice na2 g.names.length nc2, .slice ra2 g.rules.length rc2]), .val (.int .i64 i), .fact (fun v w' => ∃ ao c, v = .slice ao (Us.reach g i).length c ∧ BoolsAt w'.heap.size w' ao (Us.reach g i)), .val (.agg #[.slice ta g.terms.length tc, .slice na g.names.length nc, .slice ra g.rules.length rc]), .val (.int .i64 i), .fact (fun v w' => ∃ ao c, v = .slice ao (Us.reach g i).length c ∧ BoolsAt w'.heap.size w' ao (Us.reach g i)), .val (.bool true), .val (.bool true), .val (.agg #[.slice ta2 g.terms.length tc2, .slice na2 g.names.length nc2, .slice ra2 g.rules.length rc2]), .fact (fun v w' => ∃ ao c, v = .slice ao (Us.prod g).length c ∧ BoolsAt w'.heap.size w' ao (Us.prod g)), .val (.agg #[.slice ta g.terms.length tc, .slice na g.names.length nc, .slice ra g.rules.length rc]), .fact (fun v w' => ∃ ao c, v = .slice ao (Us.prod g).length c ∧ BoolsAt w'.heap.size w' ao (Us.prod g)), .val (.bool true), .val (.bool true), .val (.bool true), .val (.agg #[.slice ta2 g.terms.length tc2, .slice na2 g.names.length nc2, .slice ra2 g.rules.length rc2]), .fact (fun v w' => ∃ ao c, v = .slice ao (Us.use g).length c ∧ BoolsAt w'.heap.size w' ao (Us.use g)), .val (.agg #[.slice ta g.terms.length tc, .slice na g.names.length nc, .slice ra g.rules.length rc]), .fact (fun v w' => ∃ ao c, v = .slice ao (Us.use g).length c ∧ BoolsAt w'.heap.size w' ao (Us.use g)), .val (.bool true), .val (.bool true), .val (.bool true), .val (.agg #[.slice ta2 g.terms.length tc2, .slice na2 g.names.length nc2, .slice ra2 g.rules.length rc2]), .val (.agg #[.slice ta g.terms.length tc, .slice na g.names.length nc, .slice ra g.rules.length rc]), .val (.bool true), .val (.bool true), .val (.bool true), .val (.bool true), .val (.bool true)] [_] (by kernel_rfl) (by kernel_rfl) rfl ?kept ?walk
  case kept => exact ⟨fun v w1 w2 hL ⟨bo, bc, e, h1⟩ => ⟨bo, bc, e, h1.next hL⟩, fun v w1 w2 hL ⟨bo, bc, e, h1⟩ => ⟨bo, bc, e, h1.next hL⟩, fun v w1 w2 hL ⟨bo, bc, e, h1⟩ => ⟨bo, bc, e, h1.next hL⟩, fun v w1 w2 hL ⟨bo, bc, e, h1⟩ => ⟨bo, bc, e, h1.next hL⟩, fun v w1 w2 hL ⟨bo, bc, e, h1⟩ => ⟨bo, bc, e, h1.next hL⟩, fun v w1 w2 hL ⟨bo, bc, e, h1⟩ => ⟨bo, bc, e, h1.next hL⟩, trivial⟩
  case walk =>
    refine wpFacts_val (by rfl) (fun w1 hL hd K hK => ?_) ?_
    · obtain ⟨d0, d1, d2⟩ := HC7.out w1 hL
      go_simp
      exact hK _ (Lat.refl _)
    refine wpFacts_norm (by simp only [Act.put, List.setIfInBounds_toArray, List.set_cons_zero, List.set_cons_succ]; rfl) (by simp only [List.nil_append]; rfl) ?_
    refine wpFacts_val (by rfl) (fun w1 hL hd K hK => ?_) ?_
    · go_simp
      exact hK _ (Lat.refl _)
    refine wpFacts_norm (by simp only [Act.put, List.setIfInBounds_toArray, List.set_cons_zero, List.set_cons_succ]; rfl) (by simp only [List.cons_append, List.nil_append]; rfl) ?_
    refine wpFacts_fact (by rfl) (fun w1 hL hd K hK => ?_) (fun v2 => ?_)
    · go_simp
      refine Calls.mono (HOI.out w1 hL) ?_
      rintro e w9 ⟨bo, bc, rfl, hb8, hb9⟩
      exact hK _ _ hb9.out ⟨bo, bc, rfl, hb8.out⟩
    refine wpFacts_norm (by simp only [Act.put, List.setIfInBounds_toArray, List.set_cons_zero, List.set_cons_succ]; rfl) (by simp only [List.cons_append, List.nil_append]; rfl) ?_
    refine wpFacts_val (by rfl) (fun w1 hL hd K hK => ?_) ?_
    · obtain ⟨d0, d1, d2⟩ := HC3.out w1 hL
      go_simp
      exact hK _ (Lat.refl _)
    refine wpFacts_norm (by simp only [Act.put, List.setIfInBounds_toArray, List.set_cons_zero, List.set_cons_succ]; rfl) (by simp only [List.cons_append, List.nil_append]; rfl) ?_
    refine wpFacts_val (by rfl) (fun w1 hL hd K hK => ?_) ?_
    · go_simp
      exact hK _ (Lat.refl _)
    refine wpFacts_norm (by simp only [Act.put, List.setIfInBounds_toArray, List.set_cons_zero, List.set_cons_succ]; rfl) (by simp only [List.cons_append, List.nil_append]; rfl) ?_
    refine wpFacts_fact (by rfl) (fun w1 hL hd K hK => ?_) (fun v5 => ?_)
    · go_simp
      refine Calls.mono (HOR.out w1 hL) ?_
      rintro e w9 ⟨bo, bc, rfl, hb8, hb9⟩
      exact hK _ _ hb9.out ⟨bo, bc, rfl, hb8.out⟩
    refine wpFacts_norm (by simp only [Act.put, List.setIfInBounds_toArray, List.set_cons_zero, List.set_cons_succ]; rfl) (by simp only [List.cons_append, List.nil_append]; rfl) ?_
    refine wpFacts_val (by rfl) (fun w1 hL hd K hK => ?_) ?_
    · obtain ⟨b1, e1, rfl, q1⟩ : ∃ ao c, v2 = .slice ao (Us.reach g i).length c ∧ BoolsAt w1.heap.size w1 ao (Us.reach g i) := hd.1
      obtain ⟨b3, e3, rfl, q3⟩ : ∃ ao c, v5 = .slice ao (Us.reach g i).length c ∧ BoolsAt w1.heap.size w1 ao (Us.reach g i) := hd.2.1
      have HQ : Hid _ := keepBools_is true (Us.reach g i) (Us.reach g i) (Nat.le_trans (Us.reach_small g i) (by omega)) b1 b3 e1 e3 w1 q1 q3 rfl rfl
      clear q1 q3 hd
      go_simp
      refine Calls.mono HQ.out ?_
      rintro e w9 ⟨rfl, hb9⟩
      exact hK _ hb9
    refine wpFacts_norm (by simp only [Act.put, List.setIfInBounds_toArray, List.set_cons_zero, List.set_cons_succ]; rfl) (by simp only [List.cons_append, List.nil_append]; rfl) ?_
    refine wpFacts_val (by rfl) (fun w1 hL hd K hK => ?_) ?_
    · go_simp
      exact hK _ (Lat.refl _)
    refine wpFacts_norm (by simp only [Act.put, List.setIfInBounds_toArray, List.set_cons_zero, List.set_cons_succ]; rfl) (by simp only [List.cons_append, List.nil_append]; rfl) ?_
    refine wpFacts_val (by rfl) (fun w1 hL hd K hK => ?_) ?_
    · obtain ⟨d0, d1, d2⟩ := HC7.out w1 hL
      go_simp
      exact hK _ (Lat.refl _)
    refine wpFacts_norm (by simp only [Act.put, List.setIfInBounds_toArray, List.set_cons_zero, List.set_cons_succ]; rfl) (by simp only [List.cons_append, List.nil_append]; rfl) ?_
    refine wpFacts_fact (by rfl) (fun w1 hL hd K hK => ?_) (fun v9 => ?_)
    · go_simp
      refine Calls.mono (HPI.out w1 hL) ?_
      rintro e w9 ⟨bo, bc, rfl, hb8, hb9⟩
      exact hK _ _ hb9.out ⟨bo, bc, rfl, hb8.out⟩
    refine wpFacts_norm (by simp only [Act.put, List.setIfInBounds_toArray, List.set_cons_zero, List.set_cons_succ]; rfl) (by simp only [List.cons_append, List.nil_append]; rfl) ?_
    refine wpFacts_val (by rfl) (fun w1 hL hd K hK => ?_) ?_
    · obtain ⟨d0, d1, d2⟩ := HC3.out w1 hL
      go_simp
      exact hK _ (Lat.refl _)
    refine wpFacts_norm (by simp only [Act.put, List.setIfInBounds_toArray, List.set_cons_zero, List.set_cons_succ]; rfl) (by simp only [List.cons_append, List.nil_append]; rfl) ?_
    refine wpFacts_fact (by rfl) (fun w1 hL hd K hK => ?_) (fun v11 => ?_)
    · go_simp
      refine Calls.mono (HPR.out w1 hL) ?_
      rintro e w9 ⟨bo, bc, rfl, hb8, hb9⟩
      exact hK _ _ hb9.out ⟨bo, bc, rfl, hb8.out⟩
    refine wpFacts_norm (by simp only [Act.put, List.setIfInBounds_toArray, List.set_cons_zero, List.set_cons_succ]; rfl) (by simp only [List.cons_append, List.nil_append]; rfl) ?_
    refine wpFacts_val (by rfl) (fun w1 hL hd K hK => ?_) ?_
    · obtain ⟨b1, e1, rfl, q1⟩ : ∃ ao c, v9 = .slice ao (Us.prod g).length c ∧ BoolsAt w1.heap.size w1 ao (Us.prod g) := hd.1
      obtain ⟨b3, e3, rfl, q3⟩ : ∃ ao c, v11 = .slice ao (Us.prod g).length c ∧ BoolsAt w1.heap.size w1 ao (Us.prod g) := hd.2.1
      have HQ : Hid _ := keepBools_is true (Us.prod g) (Us.prod g) (Nat.le_trans (Us.prod_small g) (by omega)) b1 b3 e1 e3 w1 q1 q3 rfl rfl
      clear q1 q3 hd
      go_simp
      refine Calls.mono HQ.out ?_
      rintro e w9 ⟨rfl, hb9⟩
      exact hK _ hb9
    refine wpFacts_norm (by simp only [Act.put, List.setIfInBounds_toArray, List.set_cons_zero, List.set_cons_succ]; rfl) (by simp only [List.cons_append, List.nil_append]; rfl) ?_
    refine wpFacts_val (by rfl) (fun w1 hL hd K hK => ?_) ?_
    · go_simp
      exact hK _ (Lat.refl _)
    refine wpFacts_norm (by simp only [Act.put, List.setIfInBounds_toArray, List.set_cons_zero, List.set_cons_succ]; rfl) (by simp only [List.cons_append, List.nil_append]; rfl) ?_
    refine wpFacts_val (by rfl) (fun w1 hL hd K hK => ?_) ?_
    · go_simp
      exact hK _ (Lat.refl _)
    refine wpFacts_norm (by simp only [Act.put, List.setIfInBounds_toArray, List.set_cons_zero, List.set_cons_succ]; rfl) (by simp only [List.cons_append, List.nil_append]; rfl) ?_
    refine wpFacts_val (by rfl) (fun w1 hL hd K hK => ?_) ?_
    · obtain ⟨d0, d1, d2⟩ := HC7.out w1 hL
      go_simp
      exact hK _ (Lat.refl _)
    refine wpFacts_norm (by simp only [Act.put, List.setIfInBounds_toArray, List.set_cons_zero, List.set_cons_succ]; rfl) (by simp only [List.cons_append, List.nil_append]; rfl) ?_
    refine wpFacts_fact (by rfl) (fun w1 hL hd K hK => ?_) (fun v16 => ?_)
    · go_simp
      refine Calls.mono (HUI.out w1 hL) ?_
      rintro e w9 ⟨bo, bc, rfl, hb8, hb9⟩
      exact hK _ _ hb9.out ⟨bo, bc, rfl, hb8.out⟩
    refine wpFacts_norm (by simp only [Act.put, List.setIfInBounds_toArray, List.set_cons_zero, List.set_cons_succ]; rfl) (by simp only [List.cons_append, List.nil_append]; rfl) ?_
    refine wpFacts_val (by rfl) (fun w1 hL hd K hK => ?_) ?_
    · obtain ⟨d0, d1, d2⟩ := HC3.out w1 hL
      go_simp
      exact hK _ (Lat.refl _)
    refine wpFacts_norm (by simp only [Act.put, List.setIfInBounds_toArray, List.set_cons_zero, List.set_cons_succ]; rfl) (by simp only [List.cons_append, List.nil_append]; rfl) ?_
    refine wpFacts_fact (by rfl) (fun w1 hL hd K hK => ?_) (fun v18 => ?_)
    · go_simp
      refine Calls.mono (HUR.out w1 hL) ?_
      rintro e w9 ⟨bo, bc, rfl, hb8, hb9⟩
      exact hK _ _ hb9.out ⟨bo, bc, rfl, hb8.out⟩
    refine wpFacts_norm (by simp only [Act.put, List.setIfInBounds_toArray, List.set_cons_zero, List.set_cons_succ]; rfl) (by simp only [List.cons_append, List.nil_append]; rfl) ?_
    refine wpFacts_val (by rfl) (fun w1 hL hd K hK => ?_) ?_
    · obtain ⟨b1, e1, rfl, q1⟩ : ∃ ao c, v16 = .slice ao (Us.use g).length c ∧ BoolsAt w1.heap.size w1 ao (Us.use g) := hd.1
      obtain ⟨b3, e3, rfl, q3⟩ : ∃ ao c, v18 = .slice ao (Us.use g).length c ∧ BoolsAt w1.heap.size w1 ao (Us.use g) := hd.2.1
      have HQ : Hid _ := keepBools_is true (Us.use g) (Us.use g) (Nat.le_trans (Us.use_small g) (by omega)) b1 b3 e1 e3 w1 q1 q3 rfl rfl
      clear q1 q3 hd
      go_simp
      refine Calls.mono HQ.out ?_
      rintro e w9 ⟨rfl, hb9⟩
      exact hK _ hb9
    refine wpFacts_norm (by simp only [Act.put, List.setIfInBounds_toArray, List.set_cons_zero, List.set_cons_succ]; rfl) (by simp only [List.cons_append, List.nil_append]; rfl) ?_
    refine wpFacts_val (by rfl) (fun w1 hL hd K hK => ?_) ?_
    · go_simp
      exact hK _ (Lat.refl _)
    refine wpFacts_norm (by simp only [Act.put, List.setIfInBounds_toArray, List.set_cons_zero, List.set_cons_succ]; rfl) (by simp only [List.cons_append, List.nil_append]; rfl) ?_
    refine wpFacts_val (by rfl) (fun w1 hL hd K hK => ?_) ?_
    · go_simp
      exact hK _ (Lat.refl _)
    refine wpFacts_norm (by simp only [Act.put, List.setIfInBounds_toArray, List.set_cons_zero, List.set_cons_succ]; rfl) (by simp only [List.cons_append, List.nil_append]; rfl) ?_
    refine wpFacts_val (by rfl) (fun w1 hL hd K hK => ?_) ?_
    · obtain ⟨d0, d1, d2⟩ := HC7.out w1 hL
      go_simp
      exact hK _ (Lat.refl _)
    refine wpFacts_norm (by simp only [Act.put, List.setIfInBounds_toArray, List.set_cons_zero, List.set_cons_succ]; rfl) (by simp only [List.cons_append, List.nil_append]; rfl) ?_
    refine wpFacts_val (by rfl) (fun w1 hL hd K hK => ?_) ?_
    · obtain ⟨d0, d1, d2⟩ := HC3.out w1 hL
      go_simp
      exact hK _ (Lat.refl _)
    refine wpFacts_norm (by simp only [Act.put, List.setIfInBounds_toArray, List.set_cons_zero, List.set_cons_succ]; rfl) (by simp only [List.cons_append, List.nil_append]; rfl) ?_
    refine wpFacts_val (by rfl) (fun w1 hL hd K hK => ?_) ?_
    · go_simp
      refine Calls.mono (HKG.out w1 hL) ?_
      rintro e w9 ⟨rfl, hb9⟩
      exact hK _ hb9
    refine wpFacts_norm (by simp only [Act.put, List.setIfInBounds_toArray, List.set_cons_zero, List.set_cons_succ]; rfl) (by simp only [List.cons_append, List.nil_append]; rfl) ?_
    refine wpFacts_val (by rfl) (fun w1 hL hd K hK => ?_) ?_
    · go_simp
      exact hK _ (Lat.refl _)
    refine wpFacts_norm (by simp only [Act.put, List.setIfInBounds_toArray, List.set_cons_zero, List.set_cons_succ]; rfl) (by simp only [List.cons_append, List.nil_append]; rfl) ?_
    refine wpFacts_val (by rfl) (fun w1 hL hd K hK => ?_) ?_
    · go_simp
      exact hK _ (Lat.refl _)
    refine wpFacts_norm (by simp only [Act.put, List.setIfInBounds_toArray, List.set_cons_zero, List.set_cons_succ]; rfl) (by simp only [List.cons_append, List.nil_append]; rfl) ?_
    refine wpFacts_val (by rfl) (fun w1 hL hd K hK => ?_) ?_
    · go_simp
      refine Calls.mono (uwakes_any w1) ?_
      rintro e w9 ⟨rfl, hb9⟩
      exact hK _ hb9
    refine wpFacts_norm (by simp only [Act.put, List.setIfInBounds_toArray, List.set_cons_zero, List.set_cons_succ]; rfl) (by simp only [List.cons_append, List.nil_append]; rfl) ?_
    refine wpFacts_val (by rfl) (fun w1 hL hd K hK => ?_) ?_
    · go_simp
      exact hK _ (Lat.refl _)
    refine wpFacts_norm (by simp only [Act.put, List.setIfInBounds_toArray, List.set_cons_zero, List.set_cons_succ]; rfl) (by simp only [List.cons_append, List.nil_append]; rfl) ?_
    intro w1 hL ha
    have HBf : Hid (Below w.heap.size w w1) := HB4.out.trans (Below.mono hL.of_drew HB4.out.size)
    clear ha hL HOI HOR HPI HPR HUI HUR HKG HC7 HC3 HB4
    go_wp2_with fail
    go_ret
    exact ⟨rfl, HBf.out⟩

theorem usefulTells_walk (g : Gr.Gm) (A : GA) (i : Int) (w : World) (h : GmAt w.heap.size w g A) (hr : ∀ r ∈ g.rules, r.2.length ≤ maxLen ∧ rlWf r) (_ : (Lit.int .i64 i).wf = true) :
    Calls Try.prog 3 #[.agg (gmCells g A), .int .i64 i] w fun e w' => e = .returned (.bool true) ∧ Below w.heap.size w w' := by
  have hm : ∀ r ∈ g.rules, r.2.length ≤ maxLen := fun r h => (hr r h).1
  cases hl : Gr.large g
  · exact usefulTells_in g A i w h hm hl
  · exact usefulTells_out g A i w h hm hl
end Go.Proofs.Ytkcohemphaafkaa
