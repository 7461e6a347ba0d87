/-
  The law FollowTells, walked: it returns true, of every grammar and number.
-/
import Derived.Test.YtdocbgfpnaiijaaGreatFoLaw
import Derived.Test.YtdocbgfpnaiijaaGreatFoDoc
import Derived.Test.YtdocbgfpnaiijaaGreatGrOwn
namespace Go.Proofs.YtdocbgfpnaiijaaGreat
open Go.RowKit Go.Conc

/-- the last of what rises -/
theorem Fo.rise_last {n : Nat} {b : List Bool} (hl : b.length = n + 1) : (b.getD n false = true → 0 < (Fi.rise b).length ∧ (Fi.rise b).getD ((Fi.rise b).length - 1) 0 = (n : Int)) ∧ (b.getD n false = false → ∀ _ : 0 < (Fi.rise b).length, (Fi.rise b).getD ((Fi.rise b).length - 1) 0 ≠ (n : Int)) := by
  have e : Fi.rise b = Fi.riseTo b (n + 1) := by unfold Fi.rise; rw [hl]
  have s := Fi.riseTo_succ b n
  rw [← e] at s
  constructor
  · intro h
    rw [h] at s
    rw [s]
    simp
  · intro h q
    have hm : (Fi.rise b).getD ((Fi.rise b).length - 1) 0 ∈ Fi.rise b := by
      rw [List.getD_eq_getElem?_getD, List.getElem?_eq_getElem (by omega), Option.getD_some]
      exact List.getElem_mem _
    intro e2
    rw [e2, Fi.mem_rise, Nl.isAt_nat, h] at hm
    cases hm
theorem Fo.lastG_len {g : Gr.Gm} : (Fo.lastG g).length = (Fo.setsG g).length := by
  unfold Fo.lastG Fo.setsG
  split <;> simp
theorem Fo.setsG_le (g : Gr.Gm) : (Fo.setsG g).length ≤ 40 ∧ ∀ x ∈ Fo.setsG g, x.length ≤ 81 := by
  cases hg : Gr.good g
  · simp [Fo.setsG, hg]
  · have hsz := (Nl.sizes_of hg).1
    exact ⟨by rw [Fo.setsG_len hg]; omega, fun x hx => Nat.le_trans (Fo.setsG_short g x hx) (by omega)⟩
theorem Fo.last_at {g : Gr.Gm} (k : Nat) (hk : k < (Fo.setsG g).length) : ((Fo.lastG g).getD k false = true → 0 < ((Fo.setsG g).getD k []).length ∧ ((Fo.setsG g).getD k []).getD (((Fo.setsG g).getD k []).length - 1) 0 = ((g.terms.length + g.names.length : Nat) : Int)) ∧ ((Fo.lastG g).getD k false = false → ∀ _ : 0 < ((Fo.setsG g).getD k []).length, ((Fo.setsG g).getD k []).getD (((Fo.setsG g).getD k []).length - 1) 0 ≠ ((g.terms.length + g.names.length : Nat) : Int)) := by
  cases hg : Gr.good g
  · simp [Fo.setsG, hg] at hk
  · have hkN : k < g.names.length := by rw [Fo.setsG_len hg] at hk; exact hk
    have hkt : k < (Fo.tabG g).length := by rw [(Fo.tabG_shape g).len]; exact hkN
    have e1 : (Fo.lastG g).getD k false = ((Fo.tabG g).getD k []).getD (g.terms.length + g.names.length) false := by
      unfold Fo.lastG
      rw [if_pos hg]
      simp [List.getD_eq_getElem?_getD, hkt]
    rw [e1, Fo.setsG_get hg k hkN]
    refine Fo.rise_last ?_
    have : (Fo.tabG g).getD k [] = (Fo.tabG g)[k] := by simp [List.getD_eq_getElem?_getD, hkt]
    rw [this]; exact (Fo.tabG_shape g).each _ (List.getElem_mem hkt)
theorem Fo.ofN_is {g : Gr.Gm} {s : Int} (h : Fo.okN g s = true) : Fo.ofN g s = (Fo.setsG g).getD (s - (g.terms.length : Int)).toNat [] ∧ (s - (g.terms.length : Int)).toNat < (Fo.setsG g).length ∧ (g.terms.length : Int) ≤ s := by
  have h2 := h
  unfold Fo.okN at h2
  simp only [Bool.and_eq_true, decide_eq_true_eq] at h2
  obtain ⟨hg, h3, h4⟩ := h2
  have hl : (s - (g.terms.length : Int)).toNat < g.names.length := by omega
  refine ⟨?_, by rw [Fo.setsG_len hg]; exact hl, h3⟩
  rw [Fo.setsG_get hg _ hl]
  unfold Fo.ofN
  rw [if_pos h]
theorem Fo.okN_no {g : Gr.Gm} {s : Int} (h : Fo.okN g s = false) : Fo.ofN g s = [] ∧ (s < (g.terms.length : Int) ∨ ((Fo.setsG g).length : Int) ≤ s - (g.terms.length : Int)) := by
  refine ⟨by unfold Fo.ofN; rw [h]; rfl, ?_⟩
  cases hg : Gr.good g
  · have : (Fo.setsG g).length = 0 := by simp [Fo.setsG, hg]
    omega
  · rw [Fo.setsG_len hg]
    unfold Fo.okN at h
    rw [hg, Bool.true_and, decide_eq_false_iff_not] at h
    omega

set_option maxRecDepth 100000 in
set_option maxHeartbeats 3200000 in
theorem refSets9_any (g : Gr.Gm) (A : GA) (w : World) (hm : ∀ x ∈ g.rules, x.2.length ≤ maxLen) (h : GmAt w.heap.size w g A) :
    Calls Tryz.prog 11 #[.agg (gmCells g A)] w fun e w' => ∃ xo xc, e = .returned (.slice xo (Fo.setsG g).length xc) ∧ Hid (LisAt w'.heap.size w' xo (Fo.setsG g)) ∧ Hid (Below w.heap.size w w') := by
  cases hg : Gr.good g
  · obtain ⟨ta, tc, na, nc, ra, rc⟩ := A
    have hbW : Hid (Below w.heap.size w (w.alloc (Obj.cells #[.slice ta g.terms.length tc, .slice na g.names.length nc, .slice ra g.rules.length rc] 25))) := (Below.refl _ w).alloc (Nat.le_refl _) _
    have HC1 : Hid (∀ (W : World), Below w.heap.size w W → Calls Tryz.prog 6 #[.agg (gmCells g ⟨ta, tc, na, nc, ra, rc⟩)] W fun e w' => e = .returned (.bool false) ∧ Below W.heap.size W w') := fun W hW => refGood_any false g _ W hm (h.next hW) (by rw [Gr.refGood_is]; exact hg)
    have R : Hid (Fo.setsG g = []) := by show _ = _; simp [Fo.setsG, hg]
    clear hm h hg
    simp only [gmCells] at HC1 ⊢
    go_enter Tryz.func11, Tryz.ntmps11
    go_wp2_with (go_at_call 6; refine (HC1.out _ hbW.out).mono ?_; rintro e w1 ⟨rfl, hb1⟩)
    go_ret
    refine ⟨none, 0, by rw [R.out]; rfl, ?_, hbW.out.trans (hb1.mono hbW.out.size)⟩
    rw [R.out]; exact LisAt.nil
  · exact refSets9_is g A _ w rfl hg hm h

set_option maxRecDepth 100000 in
set_option maxHeartbeats 3200000 in
theorem followTells_out (g : Gr.Gm) (A : GA) (sym : Int) (w : World) (h : GmAt w.heap.size w g A) (hm : ∀ r ∈ g.rules, r.2.length ≤ maxLen) (hl : Gr.large g = true ∨ Gr.large g = false ∧ Gr.good g = true ∧ Fo.light g = false) :
    Calls Tryz.prog 3 #[.agg (gmCells g A), .int .i64 sym] w fun e w' => e = .returned (.bool true) ∧ Below w.heap.size w w' := by
  obtain ⟨ta, tc, na, nc, ra, rc⟩ := A
  have hbW : Hid (Below w.heap.size w (w.alloc (Obj.cells #[.slice ta g.terms.length tc, .slice na g.names.length nc, .slice ra g.rules.length rc] 25))) := (Below.refl _ w).alloc (Nat.le_refl _) _
  have b0 : Hid ((w.alloc (Obj.cells #[.slice ta g.terms.length tc, .slice na g.names.length nc, .slice ra g.rules.length rc] 25)).heap[w.heap.size]? = some (.cells #[.slice ta g.terms.length tc, .slice na g.names.length nc, .slice ra g.rules.length rc] 25 (0, 0))) := heap_alloc_new w _
  have HLG : Hid (∀ (r : Bool) (W : World), Below w.heap.size w W → Gr.large g = r → Calls Tryz.prog 5 #[.agg (gmCells g ⟨ta, tc, na, nc, ra, rc⟩)] W fun e w' => e = .returned (.bool r) ∧ Below W.heap.size W w') := fun r W hW hl => large_is r g _ W hm (h.later hW).size hl
  have HGD : Hid (∀ (r : Bool) (W : World), Below w.heap.size w W → Gr.good g = r → Calls Tryz.prog 6 #[.agg (gmCells g ⟨ta, tc, na, nc, ra, rc⟩)] W fun e w' => e = .returned (.bool r) ∧ Below W.heap.size W w') := fun r W hW hr => refGood_any r g _ W hm (h.next hW) (by rw [Gr.refGood_is]; exact hr)
  have HSM : Hid (∀ (r : Bool) (W : World), Fo.light g = r → Calls Tryz.prog 7 #[.agg (gmCells g ⟨ta, tc, na, nc, ra, rc⟩)] W fun e w' => e = .returned (.bool r) ∧ Below W.heap.size W w') := fun r W hr => small9_is r g _ W hr
  simp only [gmCells] at HLG HGD HSM ⊢
  clear h hm
  rcases hl with hl | ⟨hl, hg, hs⟩
  · have HL1 : Hid (∀ _ : Unit, _) := fun _ => HLG.out true _ hbW.out hl
    clear HLG hl HGD HSM
    go_enter Tryz.func3, Tryz.ntmps3
    go_wp2_with (first | (go_at_call 5; refine Calls.mono (HL1.out ()) ?_; rintro e w1 ⟨rfl, hb1⟩) | (go_at_call 8; refine Calls.mono (fowakes_any _) ?_; rintro e w3 ⟨rfl, hb3⟩))
    go_ret
    exact ⟨rfl, (hbW.out.trans (hb1.mono hbW.out.size)).trans (hb3.mono (hbW.out.trans (hb1.mono hbW.out.size)).size)⟩
  · have HL1 : Hid (∀ _ : Unit, _) := fun _ => HLG.out false _ hbW.out hl
    have HG1 : Hid (∀ (W : World), Below w.heap.size w W → _) := fun W hW => HGD.out true W hW hg
    have HS1 : Hid (∀ (W : World), _) := fun W => HSM.out false W hs
    clear hg HGD HLG hl hs HSM
    go_enter Tryz.func3, Tryz.ntmps3
    go_wp2_with (go_at_call 5; fail)
    generalize (w.alloc (Obj.cells #[.slice ta g.terms.length tc, .slice na g.names.length nc, .slice ra g.rules.length rc] 25)) = W at *
    refine Calls.mono (HL1.out ()) ?_
    rintro e w1 ⟨rfl, hb1⟩
    have HB1 : Hid (Below w.heap.size w w1) := hbW.out.trans (hb1.mono hbW.out.size)
    have b1 : Hid (w1.heap[w.heap.size]? = some (.cells #[.slice ta g.terms.length tc, .slice na g.names.length nc, .slice ra g.rules.length rc] 25 (0, 0))) := (hb1.block _ (Array.getElem?_eq_some_iff.1 b0.out).1).trans b0.out
    obtain ⟨g0, g1, g2, _⟩ := cells_three_z b1.out
    clear hb1 b0 hbW HL1
    go_wp2_with (go_at_call 6; fail)
    refine Calls.mono (HG1.out _ HB1.out) ?_
    rintro e w2 ⟨rfl, hb2⟩
    have HB2 : Hid (Below w.heap.size w w2) := HB1.out.trans (hb2.mono HB1.out.size)
    have b2 : Hid (w2.heap[w.heap.size]? = some (.cells #[.slice ta g.terms.length tc, .slice na g.names.length nc, .slice ra g.rules.length rc] 25 (0, 0))) := (hb2.block _ (Array.getElem?_eq_some_iff.1 b1.out).1).trans b1.out
    clear g0 g1 g2
    obtain ⟨g0, g1, g2, _⟩ := cells_three_z b2.out
    clear hb2 HB1 HG1 b1
    go_wp2_with (go_at_call 7; fail)
    refine Calls.mono (HS1.out _) ?_
    rintro e w4 ⟨rfl, hb4⟩
    have HB4 : Hid (Below w.heap.size w w4) := HB2.out.trans (hb4.mono HB2.out.size)
    clear g0 g1 g2 hb4 HB2 HS1 b2
    go_wp2_with (go_at_call 8; refine Calls.mono (fowakes_any _) ?_; rintro e w3 ⟨rfl, hb3⟩)
    go_ret
    exact ⟨rfl, HB4.out.trans (hb3.mono HB4.out.size)⟩

set_option maxRecDepth 100000 in
set_option maxHeartbeats 12800000 in
theorem followTells_in (g : Gr.Gm) (A : GA) (sym : Int) (w : World) (hsy : sym ≤ 9223372036854775807) (h : GmAt w.heap.size w g A) (hm : ∀ r ∈ g.rules, r.2.length ≤ maxLen) (hl : Gr.large g = false) (hs9 : Gr.good g = true → Fo.light g = true) :
    Calls Tryz.prog 3 #[.agg (gmCells g A), .int .i64 sym] w fun e w' => e = .returned (.bool true) ∧ Below w.heap.size w w' := by
  obtain ⟨ta, tc, na, nc, ra, rc⟩ := A
  obtain ⟨l1, l2, l3, _, _, l4⟩ := Gr.large_no hl
  have H4 : Hid (∀ r ∈ g.rules, r.2.length ≤ 4000) := fun r hr => Nat.le_of_lt (l4 r hr)
  have HM : Hid _ := hm
  have HG : Hid (GmAt w.heap.size w g ⟨ta, tc, na, nc, ra, rc⟩) := h
  have hbW : Hid (Below w.heap.size w (w.alloc (Obj.cells #[.slice ta g.terms.length tc, .slice na g.names.length nc, .slice ra g.rules.length rc] 25))) := (Below.refl _ w).alloc (Nat.le_refl _) _
  have b0 : Hid ((w.alloc (Obj.cells #[.slice ta g.terms.length tc, .slice na g.names.length nc, .slice ra g.rules.length rc] 25)).heap[w.heap.size]? = some (.cells #[.slice ta g.terms.length tc, .slice na g.names.length nc, .slice ra g.rules.length rc] 25 (0, 0))) := heap_alloc_new w _
  have HL1 : Hid (∀ (W : World), Below w.heap.size w W → Calls Tryz.prog 5 #[.agg (gmCells g ⟨ta, tc, na, nc, ra, rc⟩)] W fun e w' => e = .returned (.bool false) ∧ Below W.heap.size W w') := fun W hW => large_is false g _ W hm (h.later hW).size hl
  have HGD : Hid (∀ (r : Bool) (W : World), Below w.heap.size w W → Gr.good g = r → Calls Tryz.prog 6 #[.agg (gmCells g ⟨ta, tc, na, nc, ra, rc⟩)] W fun e w' => e = .returned (.bool r) ∧ Below W.heap.size W w') := fun r W hW hr => refGood_any r g _ W hm (h.next hW) (by rw [Gr.refGood_is]; exact hr)
  have HOW : Hid (∀ (W : World), Below w.heap.size w W → Calls Tryz.prog 9 #[.agg (gmCells g ⟨ta, tc, na, nc, ra, rc⟩)] W fun e w' => ∃ A', e = .returned (.agg (gmCells g A')) ∧ Hid (GmOwn W.heap.size w' g A') ∧ Hid (Below W.heap.size W w')) := fun W hW => (own_is g _ W l1 l2 (by omega) H4.out (h.later hW).size).mono fun e w' ⟨A', h1, h2, h3, _⟩ => ⟨A', h1, h2, h3⟩
  have HSM : Hid (Fo.light g = true → ∀ (W : World), Calls Tryz.prog 7 #[.agg (gmCells g ⟨ta, tc, na, nc, ra, rc⟩)] W fun e w' => e = .returned (.bool true) ∧ Below W.heap.size W w') := fun q W => small9_is true g _ W q
  have HKL : Hid (∀ (ao bo : Option Addr) (c d : Nat) (W : World), LisAt W.heap.size W ao (Fo.setsG g) → LisAt W.heap.size W bo (Fo.setsG g) → Calls Tryz.prog 14 #[.slice ao (Fo.setsG g).length c, .slice bo (Fo.setsG g).length d] W fun e w' => e = .returned (.bool true) ∧ Below W.heap.size W w') := fun ao bo c d W h1 h2 => keepLists_same (Fo.setsG g) (Nat.le_trans (Fo.setsG_le g).1 (by omega)) (fun x hx => Nat.le_trans ((Fo.setsG_le g).2 x hx) (by omega)) ao bo c d W h1 h2
  simp only [gmCells] at HL1 HGD HOW HSM ⊢
  clear h hm l4
  go_enter Tryz.func3, Tryz.ntmps3
  go_wp2_with (go_at_call 5; fail)
  generalize (w.alloc (Obj.cells #[.slice ta g.terms.length tc, .slice na g.names.length nc, .slice ra g.rules.length rc] 25)) = W at *
  refine Calls.mono (HL1.out _ hbW.out) ?_
  rintro e w1 ⟨rfl, hb1⟩
  have b1 : Hid (w1.heap[w.heap.size]? = some (.cells #[.slice ta g.terms.length tc, .slice na g.names.length nc, .slice ra g.rules.length rc] 25 (0, 0))) := (hb1.block _ (Array.getElem?_eq_some_iff.1 b0.out).1).trans b0.out
  have HB1 : Hid (Below w.heap.size w w1) := hbW.out.trans (hb1.mono hbW.out.size)
  obtain ⟨g0, g1, g2, _⟩ := cells_three_z b1.out
  clear hb1 b0 hbW HL1
  go_wp2_with (go_at_call 6; fail)
  obtain ⟨gd, hgd⟩ : ∃ gd, Gr.good g = gd := ⟨_, rfl⟩
  refine Calls.mono (HGD.out gd _ HB1.out hgd) ?_
  rintro e w2 ⟨rfl, hb2⟩
  have kg2 : Hid (w2.heap[w.heap.size]? = some (.cells #[.slice ta g.terms.length tc, .slice na g.names.length nc, .slice ra g.rules.length rc] 25 (0, 0))) := (hb2.block _ (Array.getElem?_eq_some_iff.1 b1.out).1).trans b1.out
  have HB2 : Hid (Below w.heap.size w w2) := HB1.out.trans (hb2.mono HB1.out.size)
  clear g0 g1 g2 hb2 HB1 HGD b1
  obtain ⟨g0, g1, g2, _⟩ := cells_three_z kg2.out
  have hgz := (Array.getElem?_eq_some_iff.1 kg2.out).1
  have HREST : Hid (∀ w3 : World, Below w2.heap.size w2 w3 → w3.heap[w.heap.size]? = some (.cells #[.slice ta g.terms.length tc, .slice na g.names.length nc, .slice ra g.rules.length rc] 25 (0, 0)) ∧ Below w.heap.size w w3) := fun w3 h3 => ⟨(h3.block _ (Array.getElem?_eq_some_iff.1 kg2.out).1).trans kg2.out, HB2.out.trans (h3.mono HB2.out.size)⟩
  have HTAIL : Hid True := trivial
  cases gd
  · clear HSM hs9
    have HX3 : Hid (Below w2.heap.size w2 w2) := Below.refl _ w2
    clear g0 g1 g2 hgz
    obtain ⟨kg3h, hb3h⟩ := HREST.out w2 HX3.out
    have kg3 : Hid (w2.heap[w.heap.size]? = some (.cells #[.slice ta g.terms.length tc, .slice na g.names.length nc, .slice ra g.rules.length rc] 25 (0, 0))) := kg3h
    have HBO : Hid (Below w.heap.size w w2) := hb3h
    clear kg3h hb3h HREST HX3 kg2 HB2
    obtain ⟨g0, g1, g2, _⟩ := cells_three_z kg3.out
    go_wp2_with (go_at_call 9; fail)
    refine Calls.mono (HOW.out _ HBO.out) ?_
    rintro e w5 ⟨⟨ta2, tc2, na2, nc2, ra2, rc2⟩, rfl, ho5, hb5⟩
    have U6 : Hid (Below w2.heap.size w2 (w5.alloc (Obj.cells #[.slice ta2 g.terms.length tc2, .slice na2 g.names.length nc2, .slice ra2 g.rules.length rc2] 25)) ∧ (w5.alloc (Obj.cells #[.slice ta2 g.terms.length tc2, .slice na2 g.names.length nc2, .slice ra2 g.rules.length rc2] 25)).heap[w5.heap.size]? = some (.cells #[.slice ta2 g.terms.length tc2, .slice na2 g.names.length nc2, .slice ra2 g.rules.length rc2] 25 (0, 0)) ∧ GmOwn w2.heap.size (w5.alloc (Obj.cells #[.slice ta2 g.terms.length tc2, .slice na2 g.names.length nc2, .slice ra2 g.rules.length rc2] 25)) g ⟨ta2, tc2, na2, nc2, ra2, rc2⟩) := by
      have hb6 : Below w5.heap.size w5 (w5.alloc (Obj.cells #[.slice ta2 g.terms.length tc2, .slice na2 g.names.length nc2, .slice ra2 g.rules.length rc2] 25)) := (Below.refl _ w5).alloc (Nat.le_refl _) _
      exact ⟨hb5.out.trans (hb6.mono hb5.out.size), heap_alloc_new w5 _, ho5.out.below hb6⟩
    clear ho5 hb5 HOW g0 g1 g2
    go_upto_region 4 with fail
    generalize (w5.alloc (Obj.cells #[.slice ta2 g.terms.length tc2, .slice na2 g.names.length nc2, .slice ra2 g.rules.length rc2] 25)) = W6 at *
    generalize w5.heap.size = B5 at *
    have k6 : Hid (W6.heap[w.heap.size]? = some (.cells #[.slice ta g.terms.length tc, .slice na g.names.length nc, .slice ra g.rules.length rc] 25 (0, 0))) := (U6.out.1.block _ (Array.getElem?_eq_some_iff.1 kg3.out).1).trans kg3.out
    have HB6 : Hid (Below w.heap.size w W6) := HBO.out.trans (U6.out.1.mono HBO.out.size)
    have k5 : Hid _ := U6.out.2.1
    have ho6 : Hid _ := U6.out.2.2
    clear U6 kg3 HBO
    have HC : Hid (∀ w1 : World, Lat W6.drew w1 → w1.cell? ⟨w.heap.size, 0, none⟩ = some (.slice ta g.terms.length tc) ∧ w1.cell? ⟨w.heap.size, 1, none⟩ = some (.slice na g.names.length nc) ∧ w1.cell? ⟨w.heap.size, 2, none⟩ = some (.slice ra g.rules.length rc)) := fun w1 hL => by
      have h := cells_three_z ((hL.of_drew.block _ (Array.getElem?_eq_some_iff.1 k6.out).1).trans k6.out)
      exact ⟨h.1, h.2.1, h.2.2.1⟩
    have HC5 : Hid (∀ w1 : World, Lat W6.drew w1 → w1.cell? ⟨B5, 0, none⟩ = some (.slice ta2 g.terms.length tc2) ∧ w1.cell? ⟨B5, 1, none⟩ = some (.slice na2 g.names.length nc2) ∧ w1.cell? ⟨B5, 2, none⟩ = some (.slice ra2 g.rules.length rc2)) := fun w1 hL => by
      have h := cells_three_z ((hL.of_drew.block _ (Array.getElem?_eq_some_iff.1 k5.out).1).trans k5.out)
      exact ⟨h.1, h.2.1, h.2.2.1⟩
    have hgI : Hid (∀ w1 : World, Below W6.heap.size W6 w1 → GmAt w1.heap.size w1 g ⟨ta2, tc2, na2, nc2, ra2, rc2⟩) := fun w1 hL => (ho6.out.below hL).at
    have hgR : Hid (∀ w1 : World, Below W6.heap.size W6 w1 → GmAt w1.heap.size w1 g ⟨ta, tc, na, nc, ra, rc⟩) := fun w1 hL => HG.out.next (HB6.out.trans (Below.mono hL HB6.out.size))
    have HSI : Hid (∀ w1 : World, Lat W6.drew w1 → _) := fun w1 hL => fosets_is g _ w1 HM.out (hgI.out w1 hL.of_drew)
    have HSR : Hid (∀ w1 : World, Lat W6.drew w1 → _) := fun w1 hL => refSets9_any g _ w1 HM.out (hgR.out w1 hL.of_drew)
    simp only [gmCells] at HSI HSR
    refine wp_region_lat [.val (.agg #[.slice ta2 g.terms.length tc2, .slice na2 g.names.length nc2, .slice ra2 g.rules.length rc2]), .fact (fun v w' => ∃ xo xc, v = .slice xo (Fo.setsG g).length xc ∧ LisAt w'.heap.size w' xo (Fo.setsG g)), .val (.agg #[.slice ta g.terms.length tc, .slice na g.names.length nc, .slice ra g.rules.length rc]), .fact (fun v w' => ∃ xo xc, v = .slice xo (Fo.setsG g).length xc ∧ LisAt w'.heap.size w' xo (Fo.setsG g))] [_, _] (by kernel_rfl) (by kernel_rfl) rfl ?kept4 ?walk4
    case kept4 => exact ⟨fun v w1 w2 hL ⟨bo, bc, e, h1⟩ => ⟨bo, bc, e, h1.next hL⟩, fun v w1 w2 hL ⟨bo, bc, e, h1⟩ => ⟨bo, bc, e, h1.next hL⟩, trivial⟩
    case walk4 =>
      refine wpFacts_val (by rfl) (fun w1 hL hd K hK => ?_) ?_
      · obtain ⟨d0, d1, d2⟩ := HC5.out w1 hL
        go_simp
        exact hK _ (Lat.refl _)
      refine wpFacts_norm (by simp only [Act.put, List.setIfInBounds_toArray, List.set_cons_zero, List.set_cons_succ]; rfl) (by simp only [List.nil_append]; rfl) ?_
      refine wpFacts_fact (by rfl) (fun w1 hL hd K hK => ?_) (fun v1 => ?_)
      · go_simp
        refine Calls.mono (HSI.out w1 hL) ?_
        rintro e w9 ⟨bo, bc, rfl, hb8, hb9⟩
        exact hK _ _ hb9.out ⟨bo, bc, rfl, hb8.out⟩
      refine wpFacts_norm (by simp only [Act.put, List.setIfInBounds_toArray, List.set_cons_zero, List.set_cons_succ]; rfl) (by simp only [List.cons_append, List.nil_append]; rfl) ?_
      refine wpFacts_val (by rfl) (fun w1 hL hd K hK => ?_) ?_
      · obtain ⟨d0, d1, d2⟩ := HC.out w1 hL
        go_simp
        exact hK _ (Lat.refl _)
      refine wpFacts_norm (by simp only [Act.put, List.setIfInBounds_toArray, List.set_cons_zero, List.set_cons_succ]; rfl) (by simp only [List.cons_append, List.nil_append]; rfl) ?_
      refine wpFacts_fact (by rfl) (fun w1 hL hd K hK => ?_) (fun v3 => ?_)
      · go_simp
        refine Calls.mono (HSR.out w1 hL) ?_
        rintro e w9 ⟨bo, bc, rfl, hb8, hb9⟩
        exact hK _ _ hb9.out ⟨bo, bc, rfl, hb8.out⟩
      refine wpFacts_norm (by simp only [Act.put, List.setIfInBounds_toArray, List.set_cons_zero, List.set_cons_succ]; rfl) (by simp only [List.cons_append, List.nil_append]; rfl) ?_
      intro w7 hL7 ha7
      obtain ⟨so, sc, rfl, hS7⟩ : ∃ xo xc, v1 = .slice xo (Fo.setsG g).length xc ∧ LisAt w7.heap.size w7 xo (Fo.setsG g) := allHold_get 1 ha7 rfl rfl
      obtain ⟨ro, rd, rfl, hR7⟩ : ∃ xo xc, v3 = .slice xo (Fo.setsG g).length xc ∧ LisAt w7.heap.size w7 xo (Fo.setsG g) := allHold_get 3 ha7 rfl rfl
      have HS7 : Hid (LisAt w7.heap.size w7 so (Fo.setsG g)) := hS7
      have HR7 : Hid (LisAt w7.heap.size w7 ro (Fo.setsG g)) := hR7
      have HL7 : Hid (Below W6.heap.size W6 w7) := hL7.of_drew
      have k57 : Hid (w7.heap[B5]? = some (.cells #[.slice ta2 g.terms.length tc2, .slice na2 g.names.length nc2, .slice ra2 g.rules.length rc2] 25 (0, 0))) := (HL7.out.block _ (Array.getElem?_eq_some_iff.1 k5.out).1).trans k5.out
      have KW : Hid (∀ W : World, Below w7.heap.size w7 W → W.heap[w.heap.size]? = some (.cells #[.slice ta g.terms.length tc, .slice na g.names.length nc, .slice ra g.rules.length rc] 25 (0, 0)) ∧ W.heap[B5]? = some (.cells #[.slice ta2 g.terms.length tc2, .slice na2 g.names.length nc2, .slice ra2 g.rules.length rc2] 25 (0, 0)) ∧ GmAt W.heap.size W g ⟨ta2, tc2, na2, nc2, ra2, rc2⟩ ∧ GmAt W.heap.size W g ⟨ta, tc, na, nc, ra, rc⟩ ∧ Below w.heap.size w W) := fun W hW => by
        have h7 : Below W6.heap.size W6 W := HL7.out.trans (hW.mono HL7.out.size)
        exact ⟨(h7.block _ (Array.getElem?_eq_some_iff.1 k6.out).1).trans k6.out, (h7.block _ (Array.getElem?_eq_some_iff.1 k5.out).1).trans k5.out, hgI.out W h7, hgR.out W h7, HB6.out.trans (h7.mono HB6.out.size)⟩
      clear hS7 hR7 hL7 ha7 HSI HSR HC HC5 HL7 hgI hgR k6 k5 ho6 HB6
      obtain ⟨g0, g1, g2, _⟩ := cells_three_z k57.out
      have hz5 := (Array.getElem?_eq_some_iff.1 k57.out).1
      obtain ⟨kk, hkk⟩ : ∃ kk : Int, (if Fo.okN g sym = true then 0 else 1) = kk := ⟨_, rfl⟩
      have HOF : Hid _ := foof_is g ⟨ta2, tc2, na2, nc2, ra2, rc2⟩ sym kk w7 HM.out (KW.out w7 (Below.refl _ w7)).2.2.1 hkk
      have HLS : Hid (∀ W : World, Below w7.heap.size w7 W → _) := fun W hW => folast_is g ⟨ta2, tc2, na2, nc2, ra2, rc2⟩ W HM.out (KW.out W hW).2.2.1
      simp only [gmCells] at HOF HLS
      have HKG : Hid (∀ W : World, Below w7.heap.size w7 W → Calls Tryz.prog 15 #[.agg (gmCells g ⟨ta2, tc2, na2, nc2, ra2, rc2⟩), .agg (gmCells g ⟨ta, tc, na, nc, ra, rc⟩)] W fun e w' => e = .returned (.bool true) ∧ Below W.heap.size W w') := fun W hW => keepGrammar_same g ⟨ta2, tc2, na2, nc2, ra2, rc2⟩ ⟨ta, tc, na, nc, ra, rc⟩ W ⟨l1, l2, by omega⟩ H4.out (KW.out W hW).2.2.1 (KW.out W hW).2.2.2.1
      simp only [gmCells] at HKG
      go_wp2_with (go_at_call 12; fail)
      refine Calls.mono HOF.out ?_
      rintro e w8 ⟨lo, lc, rfl, hl8, hb8⟩
      have k58 : Hid (w8.heap[B5]? = some (.cells #[.slice ta2 g.terms.length tc2, .slice na2 g.names.length nc2, .slice ra2 g.rules.length rc2] 25 (0, 0))) := (KW.out w8 hb8.out).2.1
      clear g0 g1 g2 hz5 k57 HOF
      obtain ⟨g0, g1, g2, _⟩ := cells_three_z k58.out
      have hz5 := (Array.getElem?_eq_some_iff.1 k58.out).1
      go_wp2_with (go_at_call 13; fail)
      refine Calls.mono (HLS.out w8 hb8.out) ?_
      rintro e w9 ⟨bo, bc, rfl, hl9, hb9⟩
      rw [Fo.lastG_len]
      have HB9 : Hid (Below w7.heap.size w7 w9) := hb8.out.trans (hb9.out.mono hb8.out.size)
      have LO9 : Hid (IntsAt w9.heap.size w9 lo (Fo.ofN g sym)) := IntsAt.size (IntsAt.later hl8.out hb9.out)
      clear g0 g1 g2 hz5 k58 hl8 hb8 hb9 HLS
      have HK1 : Hid _ := HKL.out so ro sc rd w9 (HS7.out.next HB9.out) (HR7.out.next HB9.out)
      go_wp2_with (go_at_call 14; fail)
      refine Calls.mono HK1.out ?_
      rintro e w10 ⟨rfl, hb10⟩
      have HB10 : Hid (Below w7.heap.size w7 w10) := HB9.out.trans (hb10.mono HB9.out.size)
      have LO10 : Hid (IntsAt w10.heap.size w10 lo (Fo.ofN g sym)) := IntsAt.size (IntsAt.later LO9.out hb10)
      have BL10 : Hid (BoolsAt w10.heap.size w10 bo (Fo.lastG g)) := hl9.out.next hb10
      have hne : (((Fo.setsG g).length : Int) != ((Fo.setsG g).length : Int)) = false := by simp
      obtain ⟨q0, q1, _⟩ := KW.out w10 HB10.out
      obtain ⟨g0, g1, g2, _⟩ := cells_three_z q0
      obtain ⟨d0, d1, d2, _⟩ := cells_three_z q1
      have hgz := (Array.getElem?_eq_some_iff.1 q0).1
      have hz5 := (Array.getElem?_eq_some_iff.1 q1).1
      clear q0 q1 hb10 LO9 hl9 HB9 HK1 HKL
      go_wp2_with (go_at_call 15; fail)
      refine Calls.mono (HKG.out w10 HB10.out) ?_
      rintro e w11 ⟨rfl, hb11⟩
      have HB11 : Hid (Below w7.heap.size w7 w11) := HB10.out.trans (hb11.mono HB10.out.size)
      have LO11 : Hid (IntsAt w11.heap.size w11 lo (Fo.ofN g sym)) := IntsAt.size (IntsAt.later LO10.out hb11)
      have BL11 : Hid (BoolsAt w11.heap.size w11 bo (Fo.lastG g)) := BL10.out.next hb11
      have RL11 : Hid (LisAt w11.heap.size w11 ro (Fo.setsG g)) := HR7.out.next HB11.out
      clear g0 g1 g2 d0 d1 d2 hgz hz5 hb11 LO10 BL10 HB10 HKG hne
      obtain ⟨q0, q1, _⟩ := KW.out w11 HB11.out
      obtain ⟨g0, g1, g2, _⟩ := cells_three_z q0
      have hgz := (Array.getElem?_eq_some_iff.1 q0).1
      have hw0 : IntKind.wrap .i64 ((g.terms.length : Int) + (g.names.length : Int)) = (g.terms.length : Int) + (g.names.length : Int) := by rw [IntKind.wrap_i64]; omega
      clear q0 q1
      go_wp2_with fail
      clear g0 g1 g2 hgz hw0
      have hsl : (Fo.setsG g).length ≤ 40 := (Fo.setsG_le g).1
      go_loopw [12] (fun i wr => ∃ k : Nat, k ≤ (Fo.setsG g).length ∧ i = .int .i64 k ∧ Hid (Below w11.heap.size w11 wr)) (fun i _ => (Fo.setsG g).length - (intOf i).toNat)
      case atStart => exact ⟨0, Nat.zero_le _, rfl, Below.refl _ _⟩
      case round =>
        obtain ⟨k, hk, rfl, hbk⟩ := hrel
        by_cases hkl : k < (Fo.setsG g).length
        · have hki : (k : Int) < ((Fo.setsG g).length : Int) := by omega
          have hkb : k < (Fo.lastG g).length := by rw [Fo.lastG_len]; exact hkl
          obtain ⟨lb, lof, rfl, _, _, c0⟩ := BoolsAt.get (BL11.out.next hbk.out) k hkb
          obtain ⟨wb, wof, xo, xc, rfl, _, _, c1, hI⟩ := (RL11.out.next hbk.out) k hkl
          have LA := Fo.last_at (g := g) k hkl
          have e1 : (Fo.lastG g).getD k false = (Fo.lastG g)[k] := by simp [List.getD_eq_getElem?_getD, hkb]
          have e2 : (Fo.setsG g).getD k [] = (Fo.setsG g)[k] := by simp [List.getD_eq_getElem?_getD, hkl]
          have hxs : ((Fo.setsG g)[k]).length ≤ 4000 := Nat.le_trans ((Fo.setsG_le g).2 _ (List.getElem_mem hkl)) (by omega)
          rw [e1, e2] at LA
          clear e1 e2
          have HI : Hid _ := hI
          have HL : Hid _ := LA
          clear hI LA
          generalize (Fo.lastG g)[k] = y at *
          generalize (Fo.setsG g)[k] = xs at *
          have HBn : Hid (∀ n : Nat, Below w11.heap.size w11 (wr.drewN n)) := fun n => below_drewN hbk.out n
          clear hbk
          cases y
          · by_cases hx0 : 0 < xs.length
            · have hx0i : (0 : Int) < (xs.length : Int) := by omega
              obtain ⟨eb, eof, rfl, _, _, c2⟩ := IntsAt.get HI.out (xs.length - 1) (by omega)
              have hwl : IntKind.wrap .i64 ((xs.length : Int) - 1) = ((xs.length - 1 : Nat) : Int) := by rw [IntKind.wrap_i64]; omega
              have hq : (((xs.length - 1 : Nat) : Int)) < (xs.length : Int) := by omega
              have e3 := HL.out.2 rfl hx0
              rw [List.getD_eq_getElem?_getD, List.getElem?_eq_getElem (by omega), Option.getD_some] at e3
              have hne : (xs[xs.length - 1] == (g.terms.length : Int) + (g.names.length : Int)) = false := by rw [beq_eq_false_iff_ne]; push_cast at e3; exact e3
              clear e3 HI HL
              generalize xs[xs.length - 1] = xl at *
              generalize xs.length - 1 = lq at *
              go_upto_region 13 with fail
              go_quiet (fail)
              go_wp2_with fail
              go_roundw
              case rel => exact ⟨k + 1, by omega, by go_num, HBn.out _⟩
              case measure => simp [intOf]; omega
            · have hx0i : ¬ (0 : Int) < (xs.length : Int) := by omega
              clear HI HL
              go_upto_region 13 with fail
              go_quiet (fail)
              go_wp2_with fail
              go_roundw
              case rel => exact ⟨k + 1, by omega, by go_num, HBn.out _⟩
              case measure => simp [intOf]; omega
          · obtain ⟨hx0, e3⟩ := HL.out.1 rfl
            have hx0i : (0 : Int) < (xs.length : Int) := by omega
            obtain ⟨eb, eof, rfl, _, _, c2⟩ := IntsAt.get HI.out (xs.length - 1) (by omega)
            have hwl : IntKind.wrap .i64 ((xs.length : Int) - 1) = ((xs.length - 1 : Nat) : Int) := by rw [IntKind.wrap_i64]; omega
            have hq : (((xs.length - 1 : Nat) : Int)) < (xs.length : Int) := by omega
            rw [List.getD_eq_getElem?_getD, List.getElem?_eq_getElem (by omega), Option.getD_some] at e3
            have hne : (xs[xs.length - 1] == (g.terms.length : Int) + (g.names.length : Int)) = true := by rw [beq_iff_eq]; push_cast at e3; exact e3
            clear e3 HI HL
            generalize xs[xs.length - 1] = xl at *
            generalize xs.length - 1 = lq at *
            go_upto_region 13 with fail
            go_quiet (fail)
            go_wp2_with fail
            go_roundw
            case rel => exact ⟨k + 1, by omega, by go_num, HBn.out _⟩
            case measure => simp [intOf]; omega
        · obtain rfl : k = (Fo.setsG g).length := by omega
          have hki : ¬ ((Fo.setsG g).length : Int) < ((Fo.setsG g).length : Int) := by omega
          have HBk : Hid (Below w7.heap.size w7 wr) := HB11.out.trans (hbk.out.mono HB11.out.size)
          have LOk : Hid (IntsAt wr.heap.size wr lo (Fo.ofN g sym)) := IntsAt.size (IntsAt.later LO11.out hbk.out)
          have RLk : Hid (LisAt wr.heap.size wr ro (Fo.setsG g)) := RL11.out.next hbk.out
          obtain ⟨q0, _, _, _, hbw⟩ := KW.out wr HBk.out
          have HBw : Hid (Below w.heap.size w wr) := hbw
          obtain ⟨g0, g1, g2, _⟩ := cells_three_z q0
          have hgz := (Array.getElem?_eq_some_iff.1 q0).1
          obtain ⟨kd, hkd⟩ : ∃ kd, IntKind.wrap .i64 (sym - (g.terms.length : Int)) = kd := ⟨_, rfl⟩
          clear q0 hbw HB11 HBk LO11 RL11 hbk KW BL11
          cases hok : Fo.okN g sym
          · rw [hok] at hkk
            obtain ⟨hof, hor⟩ := Fo.okN_no hok
            have hlz : (Fo.ofN g sym).length = 0 := by rw [hof]; rfl
            have hkk1 : kk = 1 := by rw [← hkk]; rfl
            subst hkk1
            by_cases hst : sym < (g.terms.length : Int)
            · clear hok hof hor
              go_wp2_with (go_at_call 8; refine Calls.mono (fowakes_any _) ?_; rintro e w3 ⟨rfl, hb3⟩)
              go_ret
              exact ⟨rfl, HBw.out.trans (hb3.mono HBw.out.size)⟩
            · have hkd2 : kd = sym - (g.terms.length : Int) := by rw [← hkd, IntKind.wrap_i64]; omega
              have hge : ((Fo.setsG g).length : Int) ≤ kd := by omega
              clear hok hof hor
              go_wp2_with (go_at_call 8; refine Calls.mono (fowakes_any _) ?_; rintro e w3 ⟨rfl, hb3⟩)
              go_ret
              exact ⟨rfl, HBw.out.trans (hb3.mono HBw.out.size)⟩
          · rw [hok] at hkk
            obtain ⟨hof, hlt, hge⟩ := Fo.ofN_is hok
            have hkk1 : kk = 0 := by rw [← hkk]; rfl
            subst hkk1
            have hst : ¬ sym < (g.terms.length : Int) := by omega
            have hkd2 : kd = sym - (g.terms.length : Int) := by rw [← hkd, IntKind.wrap_i64]; omega
            obtain ⟨kn, hkn⟩ : ∃ kn : Nat, kd = kn := ⟨kd.toNat, by omega⟩
            have hkn2 : (sym - (g.terms.length : Int)).toNat = kn := by omega
            rw [hkn2] at hof hlt
            subst hkn
            have hgk : ¬ ((Fo.setsG g).length : Int) ≤ (kn : Int) := by omega
            have hgj : (kn : Int) < ((Fo.setsG g).length : Int) := by omega
            obtain ⟨wb, wof, xo, xc, rfl, _, _, c1, hI⟩ := RLk.out kn hlt
            have e2 : (Fo.setsG g).getD kn [] = (Fo.setsG g)[kn] := by simp [List.getD_eq_getElem?_getD, hlt]
            have hxs : ((Fo.setsG g)[kn]).length ≤ 4000 := Nat.le_trans ((Fo.setsG_le g).2 _ (List.getElem_mem hlt)) (by omega)
            rw [e2] at hof
            rw [hof]
            have LOx : Hid (IntsAt wr.heap.size wr lo (Fo.setsG g)[kn]) := by have := LOk.out; rw [hof] at this; exact this
            have HI : Hid _ := hI
            clear hI hof hok e2 LOk hkn2 hkd2 RLk
            generalize (Fo.setsG g)[kn] = xs at *
            have HKI : Hid (Calls Tryz.prog 16 #[.slice lo xs.length lc, .slice xo xs.length xc] wr fun e w' => e = .returned (.bool true) ∧ Below wr.heap.size wr w') := (keepInts_same xs hxs lo xo lc xc wr LOx.out HI.out).mono fun e w' ⟨h1, n, h2⟩ => ⟨h1, by rw [h2]; exact below_drewN (Below.refl _ wr) n⟩
            clear LOx HI
            go_wp2_with (go_at_call 16; fail)
            refine Calls.mono HKI.out ?_
            rintro e w12 ⟨rfl, hb12⟩
            have HB12 : Hid (Below w.heap.size w w12) := HBw.out.trans (hb12.mono HBw.out.size)
            clear hb12 HKI HBw g0 g1 g2 hgz c1
            go_wp2_with (go_at_call 8; refine Calls.mono (fowakes_any _) ?_; rintro e w3 ⟨rfl, hb3⟩)
            go_ret
            exact ⟨rfl, HB12.out.trans (hb3.mono HB12.out.size)⟩
  · go_wp2_with (go_at_call 7; fail)
    refine Calls.mono (HSM.out (hs9 hgd) _) ?_
    rintro e w3 ⟨rfl, hb3⟩
    have HX3 : Hid (Below w2.heap.size w2 w3) := hb3
    clear g0 g1 g2 hgz hb3 HSM hs9
    obtain ⟨kg3h, hb3h⟩ := HREST.out w3 HX3.out
    have kg3 : Hid (w3.heap[w.heap.size]? = some (.cells #[.slice ta g.terms.length tc, .slice na g.names.length nc, .slice ra g.rules.length rc] 25 (0, 0))) := kg3h
    have HBO : Hid (Below w.heap.size w w3) := hb3h
    clear kg3h hb3h HREST HX3 kg2 HB2
    obtain ⟨g0, g1, g2, _⟩ := cells_three_z kg3.out
    go_wp2_with (go_at_call 9; fail)
    refine Calls.mono (HOW.out _ HBO.out) ?_
    rintro e w5 ⟨⟨ta2, tc2, na2, nc2, ra2, rc2⟩, rfl, ho5, hb5⟩
    have U6 : Hid (Below w3.heap.size w3 (w5.alloc (Obj.cells #[.slice ta2 g.terms.length tc2, .slice na2 g.names.length nc2, .slice ra2 g.rules.length rc2] 25)) ∧ (w5.alloc (Obj.cells #[.slice ta2 g.terms.length tc2, .slice na2 g.names.length nc2, .slice ra2 g.rules.length rc2] 25)).heap[w5.heap.size]? = some (.cells #[.slice ta2 g.terms.length tc2, .slice na2 g.names.length nc2, .slice ra2 g.rules.length rc2] 25 (0, 0)) ∧ GmOwn w3.heap.size (w5.alloc (Obj.cells #[.slice ta2 g.terms.length tc2, .slice na2 g.names.length nc2, .slice ra2 g.rules.length rc2] 25)) g ⟨ta2, tc2, na2, nc2, ra2, rc2⟩) := by
      have hb6 : Below w5.heap.size w5 (w5.alloc (Obj.cells #[.slice ta2 g.terms.length tc2, .slice na2 g.names.length nc2, .slice ra2 g.rules.length rc2] 25)) := (Below.refl _ w5).alloc (Nat.le_refl _) _
      exact ⟨hb5.out.trans (hb6.mono hb5.out.size), heap_alloc_new w5 _, ho5.out.below hb6⟩
    clear ho5 hb5 HOW g0 g1 g2
    go_upto_region 4 with fail
    generalize (w5.alloc (Obj.cells #[.slice ta2 g.terms.length tc2, .slice na2 g.names.length nc2, .slice ra2 g.rules.length rc2] 25)) = W6 at *
    generalize w5.heap.size = B5 at *
    have k6 : Hid (W6.heap[w.heap.size]? = some (.cells #[.slice ta g.terms.length tc, .slice na g.names.length nc, .slice ra g.rules.length rc] 25 (0, 0))) := (U6.out.1.block _ (Array.getElem?_eq_some_iff.1 kg3.out).1).trans kg3.out
    have HB6 : Hid (Below w.heap.size w W6) := HBO.out.trans (U6.out.1.mono HBO.out.size)
    have k5 : Hid _ := U6.out.2.1
    have ho6 : Hid _ := U6.out.2.2
    clear U6 kg3 HBO
    have HC : Hid (∀ w1 : World, Lat W6.drew w1 → w1.cell? ⟨w.heap.size, 0, none⟩ = some (.slice ta g.terms.length tc) ∧ w1.cell? ⟨w.heap.size, 1, none⟩ = some (.slice na g.names.length nc) ∧ w1.cell? ⟨w.heap.size, 2, none⟩ = some (.slice ra g.rules.length rc)) := fun w1 hL => by
      have h := cells_three_z ((hL.of_drew.block _ (Array.getElem?_eq_some_iff.1 k6.out).1).trans k6.out)
      exact ⟨h.1, h.2.1, h.2.2.1⟩
    have HC5 : Hid (∀ w1 : World, Lat W6.drew w1 → w1.cell? ⟨B5, 0, none⟩ = some (.slice ta2 g.terms.length tc2) ∧ w1.cell? ⟨B5, 1, none⟩ = some (.slice na2 g.names.length nc2) ∧ w1.cell? ⟨B5, 2, none⟩ = some (.slice ra2 g.rules.length rc2)) := fun w1 hL => by
      have h := cells_three_z ((hL.of_drew.block _ (Array.getElem?_eq_some_iff.1 k5.out).1).trans k5.out)
      exact ⟨h.1, h.2.1, h.2.2.1⟩
    have hgI : Hid (∀ w1 : World, Below W6.heap.size W6 w1 → GmAt w1.heap.size w1 g ⟨ta2, tc2, na2, nc2, ra2, rc2⟩) := fun w1 hL => (ho6.out.below hL).at
    have hgR : Hid (∀ w1 : World, Below W6.heap.size W6 w1 → GmAt w1.heap.size w1 g ⟨ta, tc, na, nc, ra, rc⟩) := fun w1 hL => HG.out.next (HB6.out.trans (Below.mono hL HB6.out.size))
    have HSI : Hid (∀ w1 : World, Lat W6.drew w1 → _) := fun w1 hL => fosets_is g _ w1 HM.out (hgI.out w1 hL.of_drew)
    have HSR : Hid (∀ w1 : World, Lat W6.drew w1 → _) := fun w1 hL => refSets9_any g _ w1 HM.out (hgR.out w1 hL.of_drew)
    simp only [gmCells] at HSI HSR
    refine wp_region_lat [.val (.agg #[.slice ta2 g.terms.length tc2, .slice na2 g.names.length nc2, .slice ra2 g.rules.length rc2]), .fact (fun v w' => ∃ xo xc, v = .slice xo (Fo.setsG g).length xc ∧ LisAt w'.heap.size w' xo (Fo.setsG g)), .val (.agg #[.slice ta g.terms.length tc, .slice na g.names.length nc, .slice ra g.rules.length rc]), .fact (fun v w' => ∃ xo xc, v = .slice xo (Fo.setsG g).length xc ∧ LisAt w'.heap.size w' xo (Fo.setsG g))] [_, _] (by kernel_rfl) (by kernel_rfl) rfl ?kept4 ?walk4
    case kept4 => exact ⟨fun v w1 w2 hL ⟨bo, bc, e, h1⟩ => ⟨bo, bc, e, h1.next hL⟩, fun v w1 w2 hL ⟨bo, bc, e, h1⟩ => ⟨bo, bc, e, h1.next hL⟩, trivial⟩
    case walk4 =>
      refine wpFacts_val (by rfl) (fun w1 hL hd K hK => ?_) ?_
      · obtain ⟨d0, d1, d2⟩ := HC5.out w1 hL
        go_simp
        exact hK _ (Lat.refl _)
      refine wpFacts_norm (by simp only [Act.put, List.setIfInBounds_toArray, List.set_cons_zero, List.set_cons_succ]; rfl) (by simp only [List.nil_append]; rfl) ?_
      refine wpFacts_fact (by rfl) (fun w1 hL hd K hK => ?_) (fun v1 => ?_)
      · go_simp
        refine Calls.mono (HSI.out w1 hL) ?_
        rintro e w9 ⟨bo, bc, rfl, hb8, hb9⟩
        exact hK _ _ hb9.out ⟨bo, bc, rfl, hb8.out⟩
      refine wpFacts_norm (by simp only [Act.put, List.setIfInBounds_toArray, List.set_cons_zero, List.set_cons_succ]; rfl) (by simp only [List.cons_append, List.nil_append]; rfl) ?_
      refine wpFacts_val (by rfl) (fun w1 hL hd K hK => ?_) ?_
      · obtain ⟨d0, d1, d2⟩ := HC.out w1 hL
        go_simp
        exact hK _ (Lat.refl _)
      refine wpFacts_norm (by simp only [Act.put, List.setIfInBounds_toArray, List.set_cons_zero, List.set_cons_succ]; rfl) (by simp only [List.cons_append, List.nil_append]; rfl) ?_
      refine wpFacts_fact (by rfl) (fun w1 hL hd K hK => ?_) (fun v3 => ?_)
      · go_simp
        refine Calls.mono (HSR.out w1 hL) ?_
        rintro e w9 ⟨bo, bc, rfl, hb8, hb9⟩
        exact hK _ _ hb9.out ⟨bo, bc, rfl, hb8.out⟩
      refine wpFacts_norm (by simp only [Act.put, List.setIfInBounds_toArray, List.set_cons_zero, List.set_cons_succ]; rfl) (by simp only [List.cons_append, List.nil_append]; rfl) ?_
      intro w7 hL7 ha7
      obtain ⟨so, sc, rfl, hS7⟩ : ∃ xo xc, v1 = .slice xo (Fo.setsG g).length xc ∧ LisAt w7.heap.size w7 xo (Fo.setsG g) := allHold_get 1 ha7 rfl rfl
      obtain ⟨ro, rd, rfl, hR7⟩ : ∃ xo xc, v3 = .slice xo (Fo.setsG g).length xc ∧ LisAt w7.heap.size w7 xo (Fo.setsG g) := allHold_get 3 ha7 rfl rfl
      have HS7 : Hid (LisAt w7.heap.size w7 so (Fo.setsG g)) := hS7
      have HR7 : Hid (LisAt w7.heap.size w7 ro (Fo.setsG g)) := hR7
      have HL7 : Hid (Below W6.heap.size W6 w7) := hL7.of_drew
      have k57 : Hid (w7.heap[B5]? = some (.cells #[.slice ta2 g.terms.length tc2, .slice na2 g.names.length nc2, .slice ra2 g.rules.length rc2] 25 (0, 0))) := (HL7.out.block _ (Array.getElem?_eq_some_iff.1 k5.out).1).trans k5.out
      have KW : Hid (∀ W : World, Below w7.heap.size w7 W → W.heap[w.heap.size]? = some (.cells #[.slice ta g.terms.length tc, .slice na g.names.length nc, .slice ra g.rules.length rc] 25 (0, 0)) ∧ W.heap[B5]? = some (.cells #[.slice ta2 g.terms.length tc2, .slice na2 g.names.length nc2, .slice ra2 g.rules.length rc2] 25 (0, 0)) ∧ GmAt W.heap.size W g ⟨ta2, tc2, na2, nc2, ra2, rc2⟩ ∧ GmAt W.heap.size W g ⟨ta, tc, na, nc, ra, rc⟩ ∧ Below w.heap.size w W) := fun W hW => by
        have h7 : Below W6.heap.size W6 W := HL7.out.trans (hW.mono HL7.out.size)
        exact ⟨(h7.block _ (Array.getElem?_eq_some_iff.1 k6.out).1).trans k6.out, (h7.block _ (Array.getElem?_eq_some_iff.1 k5.out).1).trans k5.out, hgI.out W h7, hgR.out W h7, HB6.out.trans (h7.mono HB6.out.size)⟩
      clear hS7 hR7 hL7 ha7 HSI HSR HC HC5 HL7 hgI hgR k6 k5 ho6 HB6
      obtain ⟨g0, g1, g2, _⟩ := cells_three_z k57.out
      have hz5 := (Array.getElem?_eq_some_iff.1 k57.out).1
      obtain ⟨kk, hkk⟩ : ∃ kk : Int, (if Fo.okN g sym = true then 0 else 1) = kk := ⟨_, rfl⟩
      have HOF : Hid _ := foof_is g ⟨ta2, tc2, na2, nc2, ra2, rc2⟩ sym kk w7 HM.out (KW.out w7 (Below.refl _ w7)).2.2.1 hkk
      have HLS : Hid (∀ W : World, Below w7.heap.size w7 W → _) := fun W hW => folast_is g ⟨ta2, tc2, na2, nc2, ra2, rc2⟩ W HM.out (KW.out W hW).2.2.1
      simp only [gmCells] at HOF HLS
      have HKG : Hid (∀ W : World, Below w7.heap.size w7 W → Calls Tryz.prog 15 #[.agg (gmCells g ⟨ta2, tc2, na2, nc2, ra2, rc2⟩), .agg (gmCells g ⟨ta, tc, na, nc, ra, rc⟩)] W fun e w' => e = .returned (.bool true) ∧ Below W.heap.size W w') := fun W hW => keepGrammar_same g ⟨ta2, tc2, na2, nc2, ra2, rc2⟩ ⟨ta, tc, na, nc, ra, rc⟩ W ⟨l1, l2, by omega⟩ H4.out (KW.out W hW).2.2.1 (KW.out W hW).2.2.2.1
      simp only [gmCells] at HKG
      go_wp2_with (go_at_call 12; fail)
      refine Calls.mono HOF.out ?_
      rintro e w8 ⟨lo, lc, rfl, hl8, hb8⟩
      have k58 : Hid (w8.heap[B5]? = some (.cells #[.slice ta2 g.terms.length tc2, .slice na2 g.names.length nc2, .slice ra2 g.rules.length rc2] 25 (0, 0))) := (KW.out w8 hb8.out).2.1
      clear g0 g1 g2 hz5 k57 HOF
      obtain ⟨g0, g1, g2, _⟩ := cells_three_z k58.out
      have hz5 := (Array.getElem?_eq_some_iff.1 k58.out).1
      go_wp2_with (go_at_call 13; fail)
      refine Calls.mono (HLS.out w8 hb8.out) ?_
      rintro e w9 ⟨bo, bc, rfl, hl9, hb9⟩
      rw [Fo.lastG_len]
      have HB9 : Hid (Below w7.heap.size w7 w9) := hb8.out.trans (hb9.out.mono hb8.out.size)
      have LO9 : Hid (IntsAt w9.heap.size w9 lo (Fo.ofN g sym)) := IntsAt.size (IntsAt.later hl8.out hb9.out)
      clear g0 g1 g2 hz5 k58 hl8 hb8 hb9 HLS
      have HK1 : Hid _ := HKL.out so ro sc rd w9 (HS7.out.next HB9.out) (HR7.out.next HB9.out)
      go_wp2_with (go_at_call 14; fail)
      refine Calls.mono HK1.out ?_
      rintro e w10 ⟨rfl, hb10⟩
      have HB10 : Hid (Below w7.heap.size w7 w10) := HB9.out.trans (hb10.mono HB9.out.size)
      have LO10 : Hid (IntsAt w10.heap.size w10 lo (Fo.ofN g sym)) := IntsAt.size (IntsAt.later LO9.out hb10)
      have BL10 : Hid (BoolsAt w10.heap.size w10 bo (Fo.lastG g)) := hl9.out.next hb10
      have hne : (((Fo.setsG g).length : Int) != ((Fo.setsG g).length : Int)) = false := by simp
      obtain ⟨q0, q1, _⟩ := KW.out w10 HB10.out
      obtain ⟨g0, g1, g2, _⟩ := cells_three_z q0
      obtain ⟨d0, d1, d2, _⟩ := cells_three_z q1
      have hgz := (Array.getElem?_eq_some_iff.1 q0).1
      have hz5 := (Array.getElem?_eq_some_iff.1 q1).1
      clear q0 q1 hb10 LO9 hl9 HB9 HK1 HKL
      go_wp2_with (go_at_call 15; fail)
      refine Calls.mono (HKG.out w10 HB10.out) ?_
      rintro e w11 ⟨rfl, hb11⟩
      have HB11 : Hid (Below w7.heap.size w7 w11) := HB10.out.trans (hb11.mono HB10.out.size)
      have LO11 : Hid (IntsAt w11.heap.size w11 lo (Fo.ofN g sym)) := IntsAt.size (IntsAt.later LO10.out hb11)
      have BL11 : Hid (BoolsAt w11.heap.size w11 bo (Fo.lastG g)) := BL10.out.next hb11
      have RL11 : Hid (LisAt w11.heap.size w11 ro (Fo.setsG g)) := HR7.out.next HB11.out
      clear g0 g1 g2 d0 d1 d2 hgz hz5 hb11 LO10 BL10 HB10 HKG hne
      obtain ⟨q0, q1, _⟩ := KW.out w11 HB11.out
      obtain ⟨g0, g1, g2, _⟩ := cells_three_z q0
      have hgz := (Array.getElem?_eq_some_iff.1 q0).1
      have hw0 : IntKind.wrap .i64 ((g.terms.length : Int) + (g.names.length : Int)) = (g.terms.length : Int) + (g.names.length : Int) := by rw [IntKind.wrap_i64]; omega
      clear q0 q1
      go_wp2_with fail
      clear g0 g1 g2 hgz hw0
      have hsl : (Fo.setsG g).length ≤ 40 := (Fo.setsG_le g).1
      go_loopw [12] (fun i wr => ∃ k : Nat, k ≤ (Fo.setsG g).length ∧ i = .int .i64 k ∧ Hid (Below w11.heap.size w11 wr)) (fun i _ => (Fo.setsG g).length - (intOf i).toNat)
      case atStart => exact ⟨0, Nat.zero_le _, rfl, Below.refl _ _⟩
      case round =>
        obtain ⟨k, hk, rfl, hbk⟩ := hrel
        by_cases hkl : k < (Fo.setsG g).length
        · have hki : (k : Int) < ((Fo.setsG g).length : Int) := by omega
          have hkb : k < (Fo.lastG g).length := by rw [Fo.lastG_len]; exact hkl
          obtain ⟨lb, lof, rfl, _, _, c0⟩ := BoolsAt.get (BL11.out.next hbk.out) k hkb
          obtain ⟨wb, wof, xo, xc, rfl, _, _, c1, hI⟩ := (RL11.out.next hbk.out) k hkl
          have LA := Fo.last_at (g := g) k hkl
          have e1 : (Fo.lastG g).getD k false = (Fo.lastG g)[k] := by simp [List.getD_eq_getElem?_getD, hkb]
          have e2 : (Fo.setsG g).getD k [] = (Fo.setsG g)[k] := by simp [List.getD_eq_getElem?_getD, hkl]
          have hxs : ((Fo.setsG g)[k]).length ≤ 4000 := Nat.le_trans ((Fo.setsG_le g).2 _ (List.getElem_mem hkl)) (by omega)
          rw [e1, e2] at LA
          clear e1 e2
          have HI : Hid _ := hI
          have HL : Hid _ := LA
          clear hI LA
          generalize (Fo.lastG g)[k] = y at *
          generalize (Fo.setsG g)[k] = xs at *
          have HBn : Hid (∀ n : Nat, Below w11.heap.size w11 (wr.drewN n)) := fun n => below_drewN hbk.out n
          clear hbk
          cases y
          · by_cases hx0 : 0 < xs.length
            · have hx0i : (0 : Int) < (xs.length : Int) := by omega
              obtain ⟨eb, eof, rfl, _, _, c2⟩ := IntsAt.get HI.out (xs.length - 1) (by omega)
              have hwl : IntKind.wrap .i64 ((xs.length : Int) - 1) = ((xs.length - 1 : Nat) : Int) := by rw [IntKind.wrap_i64]; omega
              have hq : (((xs.length - 1 : Nat) : Int)) < (xs.length : Int) := by omega
              have e3 := HL.out.2 rfl hx0
              rw [List.getD_eq_getElem?_getD, List.getElem?_eq_getElem (by omega), Option.getD_some] at e3
              have hne : (xs[xs.length - 1] == (g.terms.length : Int) + (g.names.length : Int)) = false := by rw [beq_eq_false_iff_ne]; push_cast at e3; exact e3
              clear e3 HI HL
              generalize xs[xs.length - 1] = xl at *
              generalize xs.length - 1 = lq at *
              go_upto_region 13 with fail
              go_quiet (fail)
              go_wp2_with fail
              go_roundw
              case rel => exact ⟨k + 1, by omega, by go_num, HBn.out _⟩
              case measure => simp [intOf]; omega
            · have hx0i : ¬ (0 : Int) < (xs.length : Int) := by omega
              clear HI HL
              go_upto_region 13 with fail
              go_quiet (fail)
              go_wp2_with fail
              go_roundw
              case rel => exact ⟨k + 1, by omega, by go_num, HBn.out _⟩
              case measure => simp [intOf]; omega
          · obtain ⟨hx0, e3⟩ := HL.out.1 rfl
            have hx0i : (0 : Int) < (xs.length : Int) := by omega
            obtain ⟨eb, eof, rfl, _, _, c2⟩ := IntsAt.get HI.out (xs.length - 1) (by omega)
            have hwl : IntKind.wrap .i64 ((xs.length : Int) - 1) = ((xs.length - 1 : Nat) : Int) := by rw [IntKind.wrap_i64]; omega
            have hq : (((xs.length - 1 : Nat) : Int)) < (xs.length : Int) := by omega
            rw [List.getD_eq_getElem?_getD, List.getElem?_eq_getElem (by omega), Option.getD_some] at e3
            have hne : (xs[xs.length - 1] == (g.terms.length : Int) + (g.names.length : Int)) = true := by rw [beq_iff_eq]; push_cast at e3; exact e3
            clear e3 HI HL
            generalize xs[xs.length - 1] = xl at *
            generalize xs.length - 1 = lq at *
            go_upto_region 13 with fail
            go_quiet (fail)
            go_wp2_with fail
            go_roundw
            case rel => exact ⟨k + 1, by omega, by go_num, HBn.out _⟩
            case measure => simp [intOf]; omega
        · obtain rfl : k = (Fo.setsG g).length := by omega
          have hki : ¬ ((Fo.setsG g).length : Int) < ((Fo.setsG g).length : Int) := by omega
          have HBk : Hid (Below w7.heap.size w7 wr) := HB11.out.trans (hbk.out.mono HB11.out.size)
          have LOk : Hid (IntsAt wr.heap.size wr lo (Fo.ofN g sym)) := IntsAt.size (IntsAt.later LO11.out hbk.out)
          have RLk : Hid (LisAt wr.heap.size wr ro (Fo.setsG g)) := RL11.out.next hbk.out
          obtain ⟨q0, _, _, _, hbw⟩ := KW.out wr HBk.out
          have HBw : Hid (Below w.heap.size w wr) := hbw
          obtain ⟨g0, g1, g2, _⟩ := cells_three_z q0
          have hgz := (Array.getElem?_eq_some_iff.1 q0).1
          obtain ⟨kd, hkd⟩ : ∃ kd, IntKind.wrap .i64 (sym - (g.terms.length : Int)) = kd := ⟨_, rfl⟩
          clear q0 hbw HB11 HBk LO11 RL11 hbk KW BL11
          cases hok : Fo.okN g sym
          · rw [hok] at hkk
            obtain ⟨hof, hor⟩ := Fo.okN_no hok
            have hlz : (Fo.ofN g sym).length = 0 := by rw [hof]; rfl
            have hkk1 : kk = 1 := by rw [← hkk]; rfl
            subst hkk1
            by_cases hst : sym < (g.terms.length : Int)
            · clear hok hof hor
              go_wp2_with (go_at_call 8; refine Calls.mono (fowakes_any _) ?_; rintro e w3 ⟨rfl, hb3⟩)
              go_ret
              exact ⟨rfl, HBw.out.trans (hb3.mono HBw.out.size)⟩
            · have hkd2 : kd = sym - (g.terms.length : Int) := by rw [← hkd, IntKind.wrap_i64]; omega
              have hge : ((Fo.setsG g).length : Int) ≤ kd := by omega
              clear hok hof hor
              go_wp2_with (go_at_call 8; refine Calls.mono (fowakes_any _) ?_; rintro e w3 ⟨rfl, hb3⟩)
              go_ret
              exact ⟨rfl, HBw.out.trans (hb3.mono HBw.out.size)⟩
          · rw [hok] at hkk
            obtain ⟨hof, hlt, hge⟩ := Fo.ofN_is hok
            have hkk1 : kk = 0 := by rw [← hkk]; rfl
            subst hkk1
            have hst : ¬ sym < (g.terms.length : Int) := by omega
            have hkd2 : kd = sym - (g.terms.length : Int) := by rw [← hkd, IntKind.wrap_i64]; omega
            obtain ⟨kn, hkn⟩ : ∃ kn : Nat, kd = kn := ⟨kd.toNat, by omega⟩
            have hkn2 : (sym - (g.terms.length : Int)).toNat = kn := by omega
            rw [hkn2] at hof hlt
            subst hkn
            have hgk : ¬ ((Fo.setsG g).length : Int) ≤ (kn : Int) := by omega
            have hgj : (kn : Int) < ((Fo.setsG g).length : Int) := by omega
            obtain ⟨wb, wof, xo, xc, rfl, _, _, c1, hI⟩ := RLk.out kn hlt
            have e2 : (Fo.setsG g).getD kn [] = (Fo.setsG g)[kn] := by simp [List.getD_eq_getElem?_getD, hlt]
            have hxs : ((Fo.setsG g)[kn]).length ≤ 4000 := Nat.le_trans ((Fo.setsG_le g).2 _ (List.getElem_mem hlt)) (by omega)
            rw [e2] at hof
            rw [hof]
            have LOx : Hid (IntsAt wr.heap.size wr lo (Fo.setsG g)[kn]) := by have := LOk.out; rw [hof] at this; exact this
            have HI : Hid _ := hI
            clear hI hof hok e2 LOk hkn2 hkd2 RLk
            generalize (Fo.setsG g)[kn] = xs at *
            have HKI : Hid (Calls Tryz.prog 16 #[.slice lo xs.length lc, .slice xo xs.length xc] wr fun e w' => e = .returned (.bool true) ∧ Below wr.heap.size wr w') := (keepInts_same xs hxs lo xo lc xc wr LOx.out HI.out).mono fun e w' ⟨h1, n, h2⟩ => ⟨h1, by rw [h2]; exact below_drewN (Below.refl _ wr) n⟩
            clear LOx HI
            go_wp2_with (go_at_call 16; fail)
            refine Calls.mono HKI.out ?_
            rintro e w12 ⟨rfl, hb12⟩
            have HB12 : Hid (Below w.heap.size w w12) := HBw.out.trans (hb12.mono HBw.out.size)
            clear hb12 HKI HBw g0 g1 g2 hgz c1
            go_wp2_with (go_at_call 8; refine Calls.mono (fowakes_any _) ?_; rintro e w3 ⟨rfl, hb3⟩)
            go_ret
            exact ⟨rfl, HB12.out.trans (hb3.mono HB12.out.size)⟩

theorem followTells_walk (g : Gr.Gm) (A : GA) (sym : Int) (w : World) (h : GmAt w.heap.size w g A) (hr : ∀ r ∈ g.rules, r.2.length ≤ maxLen ∧ rlWf r) (hn : (Lit.int .i64 sym).wf = true) :
    Calls Tryz.prog 3 #[.agg (gmCells g A), .int .i64 sym] w fun e w' => e = .returned (.bool true) ∧ Below w.heap.size w w' := by
  have hm : ∀ r ∈ g.rules, r.2.length ≤ maxLen := fun r h => (hr r h).1
  have hsy : sym ≤ 9223372036854775807 := by
    have h0 : decide (IntKind.i64.min ≤ sym) && decide (sym ≤ IntKind.i64.max) := hn
    rw [Bool.and_eq_true, decide_eq_true_eq, decide_eq_true_eq, show IntKind.i64.max = 9223372036854775807 from rfl] at h0
    exact h0.2
  cases hl : Gr.large g
  · cases hg : Gr.good g
    · exact followTells_in g A sym w hsy h hm hl (fun e => by rw [hg] at e; cases e)
    · cases hs : Fo.light g
      · exact followTells_out g A sym w h hm (.inr ⟨hl, hg, hs⟩)
      · exact followTells_in g A sym w hsy h hm hl (fun _ => hs)
  · exact followTells_out g A sym w h hm (.inl hl)
end Go.Proofs.YtdocbgfpnaiijaaGreat
