/-
  The document's own answer for layer 6: All.
-/
import Derived.Test.YtdocbgfpnaiijaaGreatNlRefs
namespace Go.Proofs.YtdocbgfpnaiijaaGreat
open Go.RowKit Go.Conc

set_option maxRecDepth 100000 in
set_option maxHeartbeats 1600000 in
theorem refAll6_is (r : Bool) (g : Gr.Gm) (A : GA) (l : List Int) (ao : Option Addr) (c : Nat) (w : World) (hm : ∀ x ∈ g.rules, x.2.length ≤ maxLen) (h : GmAt w.heap.size w g A) (hl : IntsAt w.heap.size w ao l) (hll : l.length ≤ 4000) (hr : Nl.all g l = r) :
    Calls Tryz.prog 31 #[.agg (gmCells g A), .slice ao l.length c] w fun e w' => e = .returned (.bool r) ∧ Below w.heap.size w w' := by
  obtain ⟨ta, tc, na, nc, ra, rac⟩ := A
  have HGD : Hid (∀ (r : Bool) (W : World), Below w.heap.size w W → Gr.good g = r → Calls Tryz.prog 6 #[.agg (gmCells g ⟨ta, tc, na, nc, ra, rac⟩)] W fun e w' => e = .returned (.bool r) ∧ Below W.heap.size W w') := fun r W hW hr => refGood_any r g _ W hm (h.next hW) (by rw [Gr.refGood_is]; exact hr)
  have HO : Hid (∀ W : World, Below w.heap.size w W → Calls Tryz.prog 54 #[.agg (gmCells g ⟨ta, tc, na, nc, ra, rac⟩)] W fun e w' => ∃ ao c, e = .returned (.slice ao (Nl.of g).length c) ∧ Hid (BoolsAt w'.heap.size w' ao (Nl.of g)) ∧ Hid (Below W.heap.size W w')) := fun W hW => refOf6_is g _ W hm (h.next hW)
  have HL : Hid (IntsAt w.heap.size w ao l) := hl
  have HR : Hid _ := hr
  have hbW : Hid (Below w.heap.size w (w.alloc (Obj.cells #[.slice ta g.terms.length tc, .slice na g.names.length nc, .slice ra g.rules.length rac] 25))) := (Below.refl _ w).alloc (Nat.le_refl _) _
  have B0 : Hid ((w.alloc (Obj.cells #[.slice ta g.terms.length tc, .slice na g.names.length nc, .slice ra g.rules.length rac] 25)).heap[w.heap.size]? = some (.cells #[.slice ta g.terms.length tc, .slice na g.names.length nc, .slice ra g.rules.length rac] 25 (0, 0))) := heap_alloc_new w _
  clear h hl hr hm
  simp only [gmCells] at HO HGD ⊢
  cases hg : Gr.good g
  · have HC1 : Hid (∀ _ : Unit, _) := fun _ => HGD.out false _ hbW.out hg
    have R : Hid (r = false) := by show _ = _; rw [← HR.out]; simp [Nl.all, hg]
    clear HGD HO
    go_enter Tryz.func31, Tryz.ntmps31
    go_wp2_with (go_at_call 6; refine Calls.mono (HC1.out ()) ?_; rintro e w1 ⟨rfl, hb1⟩)
    go_ret
    exact ⟨ret_bool R.out.symm, hbW.out.trans (hb1.mono hbW.out.size)⟩
  · have HC1 : Hid (∀ _ : Unit, _) := fun _ => HGD.out true _ hbW.out hg
    have R : Hid (Nl.allIn (Nl.of g) l = r) := by show _ = _; rw [← HR.out]; simp [Nl.all, hg]
    clear HGD
    go_enter Tryz.func31, Tryz.ntmps31
    go_wp2_with (go_at_call 6; fail)
    generalize (w.alloc (Obj.cells #[.slice ta g.terms.length tc, .slice na g.names.length nc, .slice ra g.rules.length rac] 25)) = W at *
    refine Calls.mono (HC1.out ()) ?_
    rintro e w1 ⟨rfl, hb1⟩
    have B1 : Hid _ := (hb1.block _ (Array.getElem?_eq_some_iff.1 B0.out).1).trans B0.out
    have HB1 : Hid _ := hbW.out.trans (hb1.mono hbW.out.size)
    obtain ⟨g0, g1, g2, _⟩ := cells_three_z B1.out
    clear hb1 B0 hbW HC1 B1
    go_wp2_with (go_at_call 54; fail)
    refine Calls.mono (HO.out _ HB1.out) ?_
    rintro e w2 ⟨io, ic, rfl, hb, hb2⟩
    have HB2 : Hid _ := HB1.out.trans (hb2.out.mono HB1.out.size)
    have HA : Hid _ := refall_is r (Nl.of g) l hll io ao ic c w2 hb.out (HL.out.later HB2.out).size R.out
    clear hb HR R HO g0 g1 g2 hb2
    generalize Nl.of g = bs at *
    go_wp2_with (go_at_call 56; refine Calls.mono HA.out ?_; rintro e w3 ⟨rfl, rfl⟩)
    go_ret
    exact ⟨rfl, HB2.out⟩

end Go.Proofs.YtdocbgfpnaiijaaGreat
