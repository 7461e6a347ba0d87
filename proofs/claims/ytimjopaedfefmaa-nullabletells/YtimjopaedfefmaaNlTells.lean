/-
  The law NullableTells, walked: it returns true, of every grammar, number and list of numbers.
-/
import Derived.Test.YtimjopaedfefmaaNlLaw
import Derived.Test.YtimjopaedfefmaaGrOwn
namespace Go.Proofs.Ytimjopaedfefmaa
open Go.RowKit Go.Conc

set_option maxRecDepth 100000 in
set_option maxHeartbeats 3200000 in
theorem nullableTells_out (g : Gr.Gm) (A : GA) (i : Int) (ao : Option Addr) (c : Nat) (l : List Int) (w : World) (h : GmAt w.heap.size w g A) (hm : ∀ r ∈ g.rules, r.2.length ≤ maxLen) (hl : Gr.large g = true ∨ Gr.large g = false ∧ 200 < l.length) :
    Calls Try.prog 5 #[.agg (gmCells g A), .int .i64 i, .slice ao l.length c] w fun e w' => e = .returned (.bool true) ∧ Below w.heap.size w w' := by
  obtain ⟨ta, tc, na, nc, ra, rc⟩ := A
  have hbW : Hid (Below w.heap.size w (w.alloc (Obj.cells #[.slice ta g.terms.length tc, .slice na g.names.length nc, .slice ra g.rules.length rc] 26))) := (Below.refl _ w).alloc (Nat.le_refl _) _
  have HLG : Hid (∀ (r : Bool) (W : World), Below w.heap.size w W → Gr.large g = r → Calls Try.prog 14 #[.agg (gmCells g ⟨ta, tc, na, nc, ra, rc⟩)] W fun e w' => e = .returned (.bool r) ∧ Below W.heap.size W w') := fun r W hW hl => large_is r g _ W hm (h.later hW).size hl
  simp only [gmCells] at HLG ⊢
  clear h hm
  rcases hl with hl | ⟨hl, hlen⟩
  · have HL1 : Hid (∀ _ : Unit, _) := fun _ => HLG.out true _ hbW.out hl
    clear HLG hl
    go_enter Try.func5, Try.ntmps5
    go_wp2_with (first | (go_at_call 14; refine Calls.mono (HL1.out ()) ?_; rintro e w1 ⟨rfl, hb1⟩) | (go_at_call 16; refine Calls.mono (nwakes_any _) ?_; rintro e w3 ⟨rfl, hb3⟩))
    go_ret
    exact ⟨rfl, (hbW.out.trans (hb1.mono hbW.out.size)).trans (hb3.mono (hbW.out.trans (hb1.mono hbW.out.size)).size)⟩
  · have HL1 : Hid (∀ _ : Unit, _) := fun _ => HLG.out false _ hbW.out hl
    have hi : (200 : Int) < (l.length : Int) := by omega
    clear HLG hl
    go_enter Try.func5, Try.ntmps5
    go_wp2_with (first | (go_at_call 14; refine Calls.mono (HL1.out ()) ?_; rintro e w1 ⟨rfl, hb1⟩) | (go_at_call 16; refine Calls.mono (nwakes_any _) ?_; rintro e w3 ⟨rfl, hb3⟩))
    go_ret
    exact ⟨rfl, (hbW.out.trans (hb1.mono hbW.out.size)).trans (hb3.mono (hbW.out.trans (hb1.mono hbW.out.size)).size)⟩

set_option maxRecDepth 100000 in
set_option maxHeartbeats 6400000 in
theorem nullableTells_in (g : Gr.Gm) (A : GA) (i : Int) (ao : Option Addr) (c : Nat) (l : List Int) (w : World) (h : GmAt w.heap.size w g A) (hm : ∀ r ∈ g.rules, r.2.length ≤ maxLen) (hi : IntsAt w.heap.size w ao l) (hl : Gr.large g = false) (hll : l.length ≤ 200) :
    Calls Try.prog 5 #[.agg (gmCells g A), .int .i64 i, .slice ao l.length c] w fun e w' => e = .returned (.bool true) ∧ Below w.heap.size w w' := by
  obtain ⟨ta, tc, na, nc, ra, rc⟩ := A
  obtain ⟨l1, l2, l3, _, _, l4⟩ := Gr.large_no hl
  have H4 : Hid (∀ r ∈ g.rules, r.2.length ≤ 4000) := fun r hr => Nat.le_of_lt (l4 r hr)
  have HM : Hid _ := hm
  have HG : Hid (GmAt w.heap.size w g ⟨ta, tc, na, nc, ra, rc⟩) := h
  have HI : Hid (IntsAt w.heap.size w ao l) := hi
  have hbW : Hid (Below w.heap.size w (w.alloc (Obj.cells #[.slice ta g.terms.length tc, .slice na g.names.length nc, .slice ra g.rules.length rc] 26))) := (Below.refl _ w).alloc (Nat.le_refl _) _
  have b0 : Hid ((w.alloc (Obj.cells #[.slice ta g.terms.length tc, .slice na g.names.length nc, .slice ra g.rules.length rc] 26)).heap[w.heap.size]? = some (.cells #[.slice ta g.terms.length tc, .slice na g.names.length nc, .slice ra g.rules.length rc] 26 (0, 0))) := heap_alloc_new w _
  have HL1 : Hid (∀ (W : World), Below w.heap.size w W → Calls Try.prog 14 #[.agg (gmCells g ⟨ta, tc, na, nc, ra, rc⟩)] W fun e w' => e = .returned (.bool false) ∧ Below W.heap.size W w') := fun W hW => large_is false g _ W hm (h.later hW).size hl
  have HOW : Hid (∀ (W : World), Below w.heap.size w W → Calls Try.prog 15 #[.agg (gmCells g ⟨ta, tc, na, nc, ra, rc⟩)] W fun e w' => ∃ A', e = .returned (.agg (gmCells g A')) ∧ Hid (GmOwn W.heap.size w' g A') ∧ Hid (Below W.heap.size W w')) := fun W hW => (own_is g _ W l1 l2 (by omega) H4.out (h.later hW).size).mono fun e w' ⟨A', h1, h2, h3, _⟩ => ⟨A', h1, h2, h3⟩
  have hli : ¬ (200 : Int) < (l.length : Int) := by omega
  simp only [gmCells] at HL1 HOW ⊢
  clear h hm hi l4
  go_enter Try.func5, Try.ntmps5
  go_wp2_with (go_at_call 14; fail)
  generalize (w.alloc (Obj.cells #[.slice ta g.terms.length tc, .slice na g.names.length nc, .slice ra g.rules.length rc] 26)) = W at *
  refine Calls.mono (HL1.out _ hbW.out) ?_
  rintro e w1 ⟨rfl, hb1⟩
  have b1 : Hid _ := (hb1.block _ (Array.getElem?_eq_some_iff.1 b0.out).1).trans b0.out
  have HB1 : Hid (Below w.heap.size w w1) := hbW.out.trans (hb1.mono hbW.out.size)
  obtain ⟨g0, g1, g2, _⟩ := cells_three_z b1.out
  clear hb1 b0 hbW HL1
  go_wp2_with (go_at_call 15; fail)
  refine Calls.mono (HOW.out _ HB1.out) ?_
  rintro e w2 ⟨⟨ta2, tc2, na2, nc2, ra2, rc2⟩, rfl, ho2, hb2⟩
  have b2 : Hid _ := (hb2.out.block _ (Array.getElem?_eq_some_iff.1 b1.out).1).trans b1.out
  have HB2 : Hid (Below w.heap.size w w2) := HB1.out.trans (hb2.out.mono HB1.out.size)
  clear g0 g1 g2 b1 HB1 hb2 HOW
  have hbE : Hid (Below w2.heap.size w2 (w2.alloc (.cells #[] 3))) := (Below.refl _ w2).alloc (Nat.le_refl _) _
  simp only []
  iterate 8 go_step
  refine wp_copy_ints (.tmp 19) (.tmp 20) rfl w2.heap.size _ rfl (Empty.new w2.heap.size 3 w2 (Nat.le_refl _)) ao c l rfl (HI.out.later (HB2.out.trans (hbE.out.mono HB2.out.size))).size (by omega) ?_
  intro v3 w3 hL3 ho3 _
  obtain ⟨a8, c8, rfl⟩ := OwnInts.shape ho3
  have HO3 : Hid _ := ho3
  have HL3 : Hid (Below w2.heap.size w2 w3) := hbE.out.trans (Below.mono hL3 hbE.out.size)
  clear ho3 hL3 hbE
  go_wp2_with fail
  have hb4 : Hid (Below w3.heap.size w3 (w3.alloc (Obj.cells #[.slice ta2 g.terms.length tc2, .slice na2 g.names.length nc2, .slice ra2 g.rules.length rc2] 26))) := (Below.refl _ w3).alloc (Nat.le_refl _) _
  have k7 : Hid ((w3.alloc (Obj.cells #[.slice ta2 g.terms.length tc2, .slice na2 g.names.length nc2, .slice ra2 g.rules.length rc2] 26)).heap[w3.heap.size]? = some (.cells #[.slice ta2 g.terms.length tc2, .slice na2 g.names.length nc2, .slice ra2 g.rules.length rc2] 26 (0, 0))) := heap_alloc_new w3 _
  have HL4 : Hid (Below w2.heap.size w2 (w3.alloc (Obj.cells #[.slice ta2 g.terms.length tc2, .slice na2 g.names.length nc2, .slice ra2 g.rules.length rc2] 26))) := HL3.out.trans (hb4.out.mono HL3.out.size)
  have k3 : Hid _ := (HL4.out.block _ (Array.getElem?_eq_some_iff.1 b2.out).1).trans b2.out
  have ho4 : Hid (GmOwn _ (w3.alloc (Obj.cells #[.slice ta2 g.terms.length tc2, .slice na2 g.names.length nc2, .slice ra2 g.rules.length rc2] 26)) g ⟨ta2, tc2, na2, nc2, ra2, rc2⟩) := ho2.out.below HL4.out
  have HB4 : Hid (Below w.heap.size w (w3.alloc (Obj.cells #[.slice ta2 g.terms.length tc2, .slice na2 g.names.length nc2, .slice ra2 g.rules.length rc2] 26))) := HB2.out.trans (HL4.out.mono HB2.out.size)
  have hi8 : Hid (IntsAt (w3.alloc (Obj.cells #[.slice ta2 g.terms.length tc2, .slice na2 g.names.length nc2, .slice ra2 g.rules.length rc2] 26)).heap.size (w3.alloc (Obj.cells #[.slice ta2 g.terms.length tc2, .slice na2 g.names.length nc2, .slice ra2 g.rules.length rc2] 26)) a8 l) := by
    obtain ⟨ao', c', e', h', _⟩ := OwnInts.read HO3.out
    cases e'
    exact IntsAt.size (IntsAt.later h' hb4.out)
  generalize (w3.alloc (Obj.cells #[.slice ta2 g.terms.length tc2, .slice na2 g.names.length nc2, .slice ra2 g.rules.length rc2] 26)) = W4 at *
  generalize w3.heap.size = B7 at *
  clear hb4 HL4 HL3 HO3 ho2 b2 HB2
  have HC7 : Hid (∀ w1 : World, Lat W4.drew w1 → w1.cell? ⟨B7, 0, none⟩ = some (.slice ta2 g.terms.length tc2) ∧ w1.cell? ⟨B7, 1, none⟩ = some (.slice na2 g.names.length nc2) ∧ w1.cell? ⟨B7, 2, none⟩ = some (.slice ra2 g.rules.length rc2)) := fun w1 hL => by
    have h := cells_three_z ((hL.of_drew.block _ (Array.getElem?_eq_some_iff.1 k7.out).1).trans k7.out)
    exact ⟨h.1, h.2.1, h.2.2.1⟩
  have HC3 : Hid (∀ w1 : World, Lat W4.drew w1 → w1.cell? ⟨w.heap.size, 0, none⟩ = some (.slice ta g.terms.length tc) ∧ w1.cell? ⟨w.heap.size, 1, none⟩ = some (.slice na g.names.length nc) ∧ w1.cell? ⟨w.heap.size, 2, none⟩ = some (.slice ra g.rules.length rc)) := fun w1 hL => by
    have h := cells_three_z ((hL.of_drew.block _ (Array.getElem?_eq_some_iff.1 k3.out).1).trans k3.out)
    exact ⟨h.1, h.2.1, h.2.2.1⟩
  have hgI : Hid (∀ w1 : World, Lat W4.drew w1 → GmAt w1.heap.size w1 g ⟨ta2, tc2, na2, nc2, ra2, rc2⟩) := fun w1 hL => (ho4.out.below hL.of_drew).at
  have hgR : Hid (∀ w1 : World, Lat W4.drew w1 → GmAt w1.heap.size w1 g ⟨ta, tc, na, nc, ra, rc⟩) := fun w1 hL => HG.out.next (HB4.out.trans (Below.mono hL.of_drew HB4.out.size))
  have hlI : Hid (∀ w1 : World, Lat W4.drew w1 → IntsAt w1.heap.size w1 a8 l) := fun w1 hL => IntsAt.size (IntsAt.later hi8.out hL.of_drew)
  have hlR : Hid (∀ w1 : World, Lat W4.drew w1 → IntsAt w1.heap.size w1 ao l) := fun w1 hL => IntsAt.size (IntsAt.later HI.out (HB4.out.trans (Below.mono hL.of_drew HB4.out.size)))
  obtain ⟨rb, hrb⟩ : ∃ rb, Nl.rule g i = rb := ⟨_, rfl⟩
  obtain ⟨ab, hab⟩ : ∃ ab, Nl.all g l = ab := ⟨_, rfl⟩
  have HOI : Hid (∀ w1 : World, Lat W4.drew w1 → Calls Try.prog 18 #[.agg (gmCells g ⟨ta2, tc2, na2, nc2, ra2, rc2⟩)] w1 fun e w' => ∃ ao c, e = .returned (.slice ao (Nl.of g).length c) ∧ Hid (BoolsAt w'.heap.size w' ao (Nl.of g)) ∧ Hid (Below w1.heap.size w1 w')) := fun w1 hL => nof_is g _ w1 HM.out (hgI.out w1 hL)
  have HOR : Hid (∀ w1 : World, Lat W4.drew w1 → Calls Try.prog 19 #[.agg (gmCells g ⟨ta, tc, na, nc, ra, rc⟩)] w1 fun e w' => ∃ ao c, e = .returned (.slice ao (Nl.of g).length c) ∧ Hid (BoolsAt w'.heap.size w' ao (Nl.of g)) ∧ Hid (Below w1.heap.size w1 w')) := fun w1 hL => refOf6_is g _ w1 HM.out (hgR.out w1 hL)
  have HRI : Hid (∀ w1 : World, Lat W4.drew w1 → Calls Try.prog 20 #[.agg (gmCells g ⟨ta2, tc2, na2, nc2, ra2, rc2⟩), .int .i64 i] w1 fun e w' => e = .returned (.bool rb) ∧ Below w1.heap.size w1 w') := fun w1 hL => nrule_is rb g _ i w1 H4.out (hgI.out w1 hL) hrb
  have HRR : Hid (∀ w1 : World, Lat W4.drew w1 → Calls Try.prog 21 #[.agg (gmCells g ⟨ta, tc, na, nc, ra, rc⟩), .int .i64 i] w1 fun e w' => e = .returned (.bool rb) ∧ Below w1.heap.size w1 w') := fun w1 hL => refRule6_is rb g _ i w1 H4.out (hgR.out w1 hL) hrb
  have HAI : Hid (∀ w1 : World, Lat W4.drew w1 → Calls Try.prog 22 #[.agg (gmCells g ⟨ta2, tc2, na2, nc2, ra2, rc2⟩), .slice a8 l.length c8] w1 fun e w' => e = .returned (.bool ab) ∧ Below w1.heap.size w1 w') := fun w1 hL => nall_is ab g _ l a8 c8 w1 HM.out (hgI.out w1 hL) (hlI.out w1 hL) (by omega) hab
  have HAR : Hid (∀ w1 : World, Lat W4.drew w1 → Calls Try.prog 23 #[.agg (gmCells g ⟨ta, tc, na, nc, ra, rc⟩), .slice ao l.length c] w1 fun e w' => e = .returned (.bool ab) ∧ Below w1.heap.size w1 w') := fun w1 hL => refAll6_is ab g _ l ao c w1 HM.out (hgR.out w1 hL) (hlR.out w1 hL) (by omega) hab
  have HKG : Hid (∀ w1 : World, Lat W4.drew w1 → Calls Try.prog 24 #[.agg (gmCells g ⟨ta2, tc2, na2, nc2, ra2, rc2⟩), .agg (gmCells g ⟨ta, tc, na, nc, ra, rc⟩)] w1 fun e w' => e = .returned (.bool true) ∧ Below w1.heap.size w1 w') := fun w1 hL => keepGrammar_same g _ _ w1 ⟨l1, l2, by omega⟩ H4.out (hgI.out w1 hL) (hgR.out w1 hL)
  have HKI : Hid (∀ w1 : World, Lat W4.drew w1 → Calls Try.prog 25 #[.slice a8 l.length c8, .slice ao l.length c] w1 fun e w' => e = .returned (.bool true) ∧ Below w1.heap.size w1 w') := fun w1 hL => (keepInts_same l (by omega) a8 ao c8 c w1 (hlI.out w1 hL) (hlR.out w1 hL)).mono fun e w' ⟨h1, n, h2⟩ => ⟨h1, by rw [h2]; exact below_drewN (Below.refl _ w1) n⟩
  simp only [gmCells] at HOI HOR HRI HRR HAI HAR HKG
  clear hgI hgR hlI hlR hrb hab k7 k3 ho4 hi8 HG HI H4 HM hli
  refine wp_region_lat [.val (.agg #[.slice ta2 g.terms.length tc2, .slice na2 g.names.length nc2, .slice ra2 g.rules.length rc2]), .fact (fun v w' => ∃ ao c, v = .slice ao (Nl.of g).length c ∧ BoolsAt w'.heap.size w' ao (Nl.of g)), .val (.agg #[.slice ta g.terms.length tc, .slice na g.names.length nc, .slice ra g.rules.length rc]), .fact (fun v w' => ∃ ao c, v = .slice ao (Nl.of g).length c ∧ BoolsAt w'.heap.size w' ao (Nl.of g)), .val (.bool true), .val (.bool true), .val (.agg #[.slice ta2 g.terms.length tc2, .slice na2 g.names.length nc2, .slice ra2 g.rules.length rc2]), .val (.int .i64 i), .val (.bool rb), .val (.agg #[.slice ta g.terms.length tc, .slice na g.names.length nc, .slice ra g.rules.length rc]), .val (.int .i64 i), .val (.bool rb), .val (.bool true), .val (.bool true), .val (.bool true), .val (.agg #[.slice ta2 g.terms.length tc2, .slice na2 g.names.length nc2, .slice ra2 g.rules.length rc2]), .val (.slice a8 l.length c8), .val (.bool ab), .val (.agg #[.slice ta g.terms.length tc, .slice na g.names.length nc, .slice ra g.rules.length rc]), .val (.slice ao l.length c), .val (.bool ab), .val (.bool true), .val (.bool true), .val (.bool true), .val (.agg #[.slice ta2 g.terms.length tc2, .slice na2 g.names.length nc2, .slice ra2 g.rules.length rc2]), .val (.agg #[.slice ta g.terms.length tc, .slice na g.names.length nc, .slice ra g.rules.length rc]), .val (.bool true), .val (.bool true), .val (.bool true), .val (.slice a8 l.length c8), .val (.slice ao l.length c), .val (.bool true), .val (.bool true), .val (.bool true), .val (.bool true), .val (.bool true)] [_] (by kernel_rfl) (by kernel_rfl) rfl ?kept ?walk
  case kept => exact ⟨fun v w1 w2 hL ⟨bo, bc, e, h1⟩ => ⟨bo, bc, e, h1.next hL⟩, fun v w1 w2 hL ⟨bo, bc, e, h1⟩ => ⟨bo, bc, e, h1.next hL⟩, trivial⟩
  case walk =>
    refine wpFacts_val (by rfl) (fun w1 hL hd K hK => ?_) ?_
    · obtain ⟨d0, d1, d2⟩ := HC7.out w1 hL
      go_simp
      exact hK _ (Lat.refl _)
    refine wpFacts_norm (by simp only [Act.put, List.setIfInBounds_toArray, List.set_cons_zero, List.set_cons_succ]; rfl) (by simp only [List.nil_append]; rfl) ?_
    refine wpFacts_fact (by rfl) (fun w1 hL hd K hK => ?_) (fun v1 => ?_)
    · go_simp
      refine Calls.mono (HOI.out w1 hL) ?_
      rintro e w9 ⟨bo, bc, rfl, hb8, hb9⟩
      exact hK _ _ hb9.out ⟨bo, bc, rfl, hb8.out⟩
    refine wpFacts_norm (by simp only [Act.put, List.setIfInBounds_toArray, List.set_cons_zero, List.set_cons_succ]; rfl) (by simp only [List.cons_append, List.nil_append]; rfl) ?_
    refine wpFacts_val (by rfl) (fun w1 hL hd K hK => ?_) ?_
    · obtain ⟨d0, d1, d2⟩ := HC3.out w1 hL
      go_simp
      exact hK _ (Lat.refl _)
    refine wpFacts_norm (by simp only [Act.put, List.setIfInBounds_toArray, List.set_cons_zero, List.set_cons_succ]; rfl) (by simp only [List.cons_append, List.nil_append]; rfl) ?_
    refine wpFacts_fact (by rfl) (fun w1 hL hd K hK => ?_) (fun v3 => ?_)
    · go_simp
      refine Calls.mono (HOR.out w1 hL) ?_
      rintro e w9 ⟨bo, bc, rfl, hb8, hb9⟩
      exact hK _ _ hb9.out ⟨bo, bc, rfl, hb8.out⟩
    refine wpFacts_norm (by simp only [Act.put, List.setIfInBounds_toArray, List.set_cons_zero, List.set_cons_succ]; rfl) (by simp only [List.cons_append, List.nil_append]; rfl) ?_
    refine wpFacts_val (by rfl) (fun w1 hL hd K hK => ?_) ?_
    · obtain ⟨b1, e1, rfl, q1⟩ : ∃ ao c, v1 = .slice ao (Nl.of g).length c ∧ BoolsAt w1.heap.size w1 ao (Nl.of g) := hd.1
      obtain ⟨b3, e3, rfl, q3⟩ : ∃ ao c, v3 = .slice ao (Nl.of g).length c ∧ BoolsAt w1.heap.size w1 ao (Nl.of g) := hd.2.1
      have HQ : Hid _ := keepBools_is true (Nl.of g) (Nl.of g) (Nat.le_trans (Nl.of_small g) (by omega)) b1 b3 e1 e3 w1 q1 q3 rfl rfl
      clear q1 q3 hd
      go_simp
      refine Calls.mono HQ.out ?_
      rintro e w9 ⟨rfl, hb9⟩
      exact hK _ hb9
    refine wpFacts_norm (by simp only [Act.put, List.setIfInBounds_toArray, List.set_cons_zero, List.set_cons_succ]; rfl) (by simp only [List.cons_append, List.nil_append]; rfl) ?_
    refine wpFacts_val (by rfl) (fun w1 hL hd K hK => ?_) ?_
    · go_simp
      exact hK _ (Lat.refl _)
    refine wpFacts_norm (by simp only [Act.put, List.setIfInBounds_toArray, List.set_cons_zero, List.set_cons_succ]; rfl) (by simp only [List.cons_append, List.nil_append]; rfl) ?_
    refine wpFacts_val (by rfl) (fun w1 hL hd K hK => ?_) ?_
    · obtain ⟨d0, d1, d2⟩ := HC7.out w1 hL
      go_simp
      exact hK _ (Lat.refl _)
    refine wpFacts_norm (by simp only [Act.put, List.setIfInBounds_toArray, List.set_cons_zero, List.set_cons_succ]; rfl) (by simp only [List.cons_append, List.nil_append]; rfl) ?_
    refine wpFacts_val (by rfl) (fun w1 hL hd K hK => ?_) ?_
    · go_simp
      exact hK _ (Lat.refl _)
    refine wpFacts_norm (by simp only [Act.put, List.setIfInBounds_toArray, List.set_cons_zero, List.set_cons_succ]; rfl) (by simp only [List.cons_append, List.nil_append]; rfl) ?_
    refine wpFacts_val (by rfl) (fun w1 hL hd K hK => ?_) ?_
    · go_simp
      refine Calls.mono (HRI.out w1 hL) ?_
      rintro e w9 ⟨rfl, hb9⟩
      exact hK _ hb9
    refine wpFacts_norm (by simp only [Act.put, List.setIfInBounds_toArray, List.set_cons_zero, List.set_cons_succ]; rfl) (by simp only [List.cons_append, List.nil_append]; rfl) ?_
    refine wpFacts_val (by rfl) (fun w1 hL hd K hK => ?_) ?_
    · obtain ⟨d0, d1, d2⟩ := HC3.out w1 hL
      go_simp
      exact hK _ (Lat.refl _)
    refine wpFacts_norm (by simp only [Act.put, List.setIfInBounds_toArray, List.set_cons_zero, List.set_cons_succ]; rfl) (by simp only [List.cons_append, List.nil_append]; rfl) ?_
    refine wpFacts_val (by rfl) (fun w1 hL hd K hK => ?_) ?_
    · go_simp
      exact hK _ (Lat.refl _)
    refine wpFacts_norm (by simp only [Act.put, List.setIfInBounds_toArray, List.set_cons_zero, List.set_cons_succ]; rfl) (by simp only [List.cons_append, List.nil_append]; rfl) ?_
    refine wpFacts_val (by rfl) (fun w1 hL hd K hK => ?_) ?_
    · go_simp
      refine Calls.mono (HRR.out w1 hL) ?_
      rintro e w9 ⟨rfl, hb9⟩
      exact hK _ hb9
    refine wpFacts_norm (by simp only [Act.put, List.setIfInBounds_toArray, List.set_cons_zero, List.set_cons_succ]; rfl) (by simp only [List.cons_append, List.nil_append]; rfl) ?_
    refine wpFacts_val (by rfl) (fun w1 hL hd K hK => ?_) ?_
    · go_simp
      exact hK _ (Lat.refl _)
    refine wpFacts_norm (by simp only [Act.put, List.setIfInBounds_toArray, List.set_cons_zero, List.set_cons_succ]; rfl) (by simp only [List.cons_append, List.nil_append]; rfl) ?_
    refine wpFacts_val (by rfl) (fun w1 hL hd K hK => ?_) ?_
    · go_simp
      exact hK _ (Lat.refl _)
    refine wpFacts_norm (by simp only [Act.put, List.setIfInBounds_toArray, List.set_cons_zero, List.set_cons_succ]; rfl) (by simp only [List.cons_append, List.nil_append]; rfl) ?_
    refine wpFacts_val (by rfl) (fun w1 hL hd K hK => ?_) ?_
    · go_simp
      exact hK _ (Lat.refl _)
    refine wpFacts_norm (by simp only [Act.put, List.setIfInBounds_toArray, List.set_cons_zero, List.set_cons_succ]; rfl) (by simp only [List.cons_append, List.nil_append]; rfl) ?_
    refine wpFacts_val (by rfl) (fun w1 hL hd K hK => ?_) ?_
    · obtain ⟨d0, d1, d2⟩ := HC7.out w1 hL
      go_simp
      exact hK _ (Lat.refl _)
    refine wpFacts_norm (by simp only [Act.put, List.setIfInBounds_toArray, List.set_cons_zero, List.set_cons_succ]; rfl) (by simp only [List.cons_append, List.nil_append]; rfl) ?_
    refine wpFacts_val (by rfl) (fun w1 hL hd K hK => ?_) ?_
    · go_simp
      exact hK _ (Lat.refl _)
    refine wpFacts_norm (by simp only [Act.put, List.setIfInBounds_toArray, List.set_cons_zero, List.set_cons_succ]; rfl) (by simp only [List.cons_append, List.nil_append]; rfl) ?_
    refine wpFacts_val (by rfl) (fun w1 hL hd K hK => ?_) ?_
    · go_simp
      refine Calls.mono (HAI.out w1 hL) ?_
      rintro e w9 ⟨rfl, hb9⟩
      exact hK _ hb9
    refine wpFacts_norm (by simp only [Act.put, List.setIfInBounds_toArray, List.set_cons_zero, List.set_cons_succ]; rfl) (by simp only [List.cons_append, List.nil_append]; rfl) ?_
    refine wpFacts_val (by rfl) (fun w1 hL hd K hK => ?_) ?_
    · obtain ⟨d0, d1, d2⟩ := HC3.out w1 hL
      go_simp
      exact hK _ (Lat.refl _)
    refine wpFacts_norm (by simp only [Act.put, List.setIfInBounds_toArray, List.set_cons_zero, List.set_cons_succ]; rfl) (by simp only [List.cons_append, List.nil_append]; rfl) ?_
    refine wpFacts_val (by rfl) (fun w1 hL hd K hK => ?_) ?_
    · go_simp
      exact hK _ (Lat.refl _)
    refine wpFacts_norm (by simp only [Act.put, List.setIfInBounds_toArray, List.set_cons_zero, List.set_cons_succ]; rfl) (by simp only [List.cons_append, List.nil_append]; rfl) ?_
    refine wpFacts_val (by rfl) (fun w1 hL hd K hK => ?_) ?_
    · go_simp
      refine Calls.mono (HAR.out w1 hL) ?_
      rintro e w9 ⟨rfl, hb9⟩
      exact hK _ hb9
    refine wpFacts_norm (by simp only [Act.put, List.setIfInBounds_toArray, List.set_cons_zero, List.set_cons_succ]; rfl) (by simp only [List.cons_append, List.nil_append]; rfl) ?_
    refine wpFacts_val (by rfl) (fun w1 hL hd K hK => ?_) ?_
    · go_simp
      exact hK _ (Lat.refl _)
    refine wpFacts_norm (by simp only [Act.put, List.setIfInBounds_toArray, List.set_cons_zero, List.set_cons_succ]; rfl) (by simp only [List.cons_append, List.nil_append]; rfl) ?_
    refine wpFacts_val (by rfl) (fun w1 hL hd K hK => ?_) ?_
    · go_simp
      exact hK _ (Lat.refl _)
    refine wpFacts_norm (by simp only [Act.put, List.setIfInBounds_toArray, List.set_cons_zero, List.set_cons_succ]; rfl) (by simp only [List.cons_append, List.nil_append]; rfl) ?_
    refine wpFacts_val (by rfl) (fun w1 hL hd K hK => ?_) ?_
    · go_simp
      exact hK _ (Lat.refl _)
    refine wpFacts_norm (by simp only [Act.put, List.setIfInBounds_toArray, List.set_cons_zero, List.set_cons_succ]; rfl) (by simp only [List.cons_append, List.nil_append]; rfl) ?_
    refine wpFacts_val (by rfl) (fun w1 hL hd K hK => ?_) ?_
    · obtain ⟨d0, d1, d2⟩ := HC7.out w1 hL
      go_simp
      exact hK _ (Lat.refl _)
    refine wpFacts_norm (by simp only [Act.put, List.setIfInBounds_toArray, List.set_cons_zero, List.set_cons_succ]; rfl) (by simp only [List.cons_append, List.nil_append]; rfl) ?_
    refine wpFacts_val (by rfl) (fun w1 hL hd K hK => ?_) ?_
    · obtain ⟨d0, d1, d2⟩ := HC3.out w1 hL
      go_simp
      exact hK _ (Lat.refl _)
    refine wpFacts_norm (by simp only [Act.put, List.setIfInBounds_toArray, List.set_cons_zero, List.set_cons_succ]; rfl) (by simp only [List.cons_append, List.nil_append]; rfl) ?_
    refine wpFacts_val (by rfl) (fun w1 hL hd K hK => ?_) ?_
    · go_simp
      refine Calls.mono (HKG.out w1 hL) ?_
      rintro e w9 ⟨rfl, hb9⟩
      exact hK _ hb9
    refine wpFacts_norm (by simp only [Act.put, List.setIfInBounds_toArray, List.set_cons_zero, List.set_cons_succ]; rfl) (by simp only [List.cons_append, List.nil_append]; rfl) ?_
    refine wpFacts_val (by rfl) (fun w1 hL hd K hK => ?_) ?_
    · go_simp
      exact hK _ (Lat.refl _)
    refine wpFacts_norm (by simp only [Act.put, List.setIfInBounds_toArray, List.set_cons_zero, List.set_cons_succ]; rfl) (by simp only [List.cons_append, List.nil_append]; rfl) ?_
    refine wpFacts_val (by rfl) (fun w1 hL hd K hK => ?_) ?_
    · go_simp
      exact hK _ (Lat.refl _)
    refine wpFacts_norm (by simp only [Act.put, List.setIfInBounds_toArray, List.set_cons_zero, List.set_cons_succ]; rfl) (by simp only [List.cons_append, List.nil_append]; rfl) ?_
    refine wpFacts_val (by rfl) (fun w1 hL hd K hK => ?_) ?_
    · go_simp
      exact hK _ (Lat.refl _)
    refine wpFacts_norm (by simp only [Act.put, List.setIfInBounds_toArray, List.set_cons_zero, List.set_cons_succ]; rfl) (by simp only [List.cons_append, List.nil_append]; rfl) ?_
    refine wpFacts_val (by rfl) (fun w1 hL hd K hK => ?_) ?_
    · go_simp
      exact hK _ (Lat.refl _)
    refine wpFacts_norm (by simp only [Act.put, List.setIfInBounds_toArray, List.set_cons_zero, List.set_cons_succ]; rfl) (by simp only [List.cons_append, List.nil_append]; rfl) ?_
    refine wpFacts_val (by rfl) (fun w1 hL hd K hK => ?_) ?_
    · go_simp
      refine Calls.mono (HKI.out w1 hL) ?_
      rintro e w9 ⟨rfl, hb9⟩
      exact hK _ hb9
    refine wpFacts_norm (by simp only [Act.put, List.setIfInBounds_toArray, List.set_cons_zero, List.set_cons_succ]; rfl) (by simp only [List.cons_append, List.nil_append]; rfl) ?_
    refine wpFacts_val (by rfl) (fun w1 hL hd K hK => ?_) ?_
    · go_simp
      exact hK _ (Lat.refl _)
    refine wpFacts_norm (by simp only [Act.put, List.setIfInBounds_toArray, List.set_cons_zero, List.set_cons_succ]; rfl) (by simp only [List.cons_append, List.nil_append]; rfl) ?_
    refine wpFacts_val (by rfl) (fun w1 hL hd K hK => ?_) ?_
    · go_simp
      exact hK _ (Lat.refl _)
    refine wpFacts_norm (by simp only [Act.put, List.setIfInBounds_toArray, List.set_cons_zero, List.set_cons_succ]; rfl) (by simp only [List.cons_append, List.nil_append]; rfl) ?_
    refine wpFacts_val (by rfl) (fun w1 hL hd K hK => ?_) ?_
    · go_simp
      refine Calls.mono (nwakes_any w1) ?_
      rintro e w9 ⟨rfl, hb9⟩
      exact hK _ hb9
    refine wpFacts_norm (by simp only [Act.put, List.setIfInBounds_toArray, List.set_cons_zero, List.set_cons_succ]; rfl) (by simp only [List.cons_append, List.nil_append]; rfl) ?_
    refine wpFacts_val (by rfl) (fun w1 hL hd K hK => ?_) ?_
    · go_simp
      exact hK _ (Lat.refl _)
    refine wpFacts_norm (by simp only [Act.put, List.setIfInBounds_toArray, List.set_cons_zero, List.set_cons_succ]; rfl) (by simp only [List.cons_append, List.nil_append]; rfl) ?_
    intro w1 hL ha
    have HBf : Hid (Below w.heap.size w w1) := HB4.out.trans (Below.mono hL.of_drew HB4.out.size)
    clear ha hL HOI HOR HRI HRR HAI HAR HKG HKI HC7 HC3 HB4
    go_wp2_with fail
    go_ret
    exact ⟨rfl, HBf.out⟩

theorem nullableTells_walk (g : Gr.Gm) (A : GA) (i : Int) (ao : Option Addr) (len c : Nat) (zs : List Int) (w : World) (h : GmAt w.heap.size w g A) (hr : ∀ r ∈ g.rules, r.2.length ≤ maxLen ∧ rlWf r) (_ : (Lit.int .i64 i).wf = true) (hz : IsRow .i64 w ao len c zs) :
    Calls Try.prog 5 #[.agg (gmCells g A), .int .i64 i, .slice ao len c] w fun e w' => e = .returned (.bool true) ∧ Below w.heap.size w w' := by
  have hm : ∀ r ∈ g.rules, r.2.length ≤ maxLen := fun r h => (hr r h).1
  obtain ⟨xs, rfl, hx, _, _⟩ := hz.read
  cases hl : Gr.large g
  · by_cases h2 : 200 < xs.length
    · exact nullableTells_out g A i ao c xs w h hm (.inr ⟨hl, h2⟩)
    · exact nullableTells_in g A i ao c xs w h hm hx hl (by omega)
  · exact nullableTells_out g A i ao c xs w h hm (.inl hl)
end Go.Proofs.Ytimjopaedfefmaa
