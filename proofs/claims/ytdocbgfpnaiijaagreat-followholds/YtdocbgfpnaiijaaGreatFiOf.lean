/-
  Layer 8 (first): Of.
-/
import Derived.Test.YtdocbgfpnaiijaaGreatFiOfs
namespace Go.Proofs.YtdocbgfpnaiijaaGreat
open Go.RowKit Go.Conc

set_option maxRecDepth 100000 in
set_option maxHeartbeats 3200000 in
theorem fof_is (g : Gr.Gm) (A : GA) (l : List Int) (ao : Option Addr) (c : Nat) (k : Int) (w : World) (hm : ∀ x ∈ g.rules, x.2.length ≤ maxLen) (h : GmAt w.heap.size w g A) (hl : IntsAt w.heap.size w ao l) (h4 : l.length ≤ 4000) (hc : l.length ≤ c) (hk : (if Fi.okG g l = true then 0 else 1) = k) :
    Calls Tryz.prog 18 #[.agg (gmCells g A), .slice ao l.length c] w fun e w' => ∃ xo xc, e = .returned (.tuple #[.slice xo (Fi.ofG g l).length xc, .int .i64 k]) ∧ Hid (IntsAt w'.heap.size w' xo (Fi.ofG g l)) ∧ Hid (Below w.heap.size w w') := by
  obtain ⟨ta, tc, na, nc, ra, rac⟩ := A
  have HG : Hid (GmAt w.heap.size w g ⟨ta, tc, na, nc, ra, rac⟩) := h
  have HL : Hid (IntsAt w.heap.size w ao l) := hl
  have HK : Hid _ := hk
  have HGD : Hid (∀ (r : Bool) (W : World), Below w.heap.size w W → Gr.good g = r → Calls Tryz.prog 27 #[.agg (gmCells g ⟨ta, tc, na, nc, ra, rac⟩)] W fun e w' => e = .returned (.bool r) ∧ Below W.heap.size W w') := fun r W hW hr => good_is r g _ W hm (h.next hW) hr
  have hbW : Hid (Below w.heap.size w (w.alloc (Obj.cells #[.slice ta g.terms.length tc, .slice na g.names.length nc, .slice ra g.rules.length rac] 25))) := (Below.refl _ w).alloc (Nat.le_refl _) _
  have B0 : Hid ((w.alloc (Obj.cells #[.slice ta g.terms.length tc, .slice na g.names.length nc, .slice ra g.rules.length rac] 25)).heap[w.heap.size]? = some (.cells #[.slice ta g.terms.length tc, .slice na g.names.length nc, .slice ra g.rules.length rac] 25 (0, 0))) := heap_alloc_new w _
  clear h hl hk
  cases hg : Gr.good g
  · have R : Hid (Fi.ofG g l = []) := by show _ = _; simp [Fi.ofG, Fi.okG, hg]
    have RK : Hid (k = 1) := by show _ = _; rw [← HK.out]; simp [Fi.okG, hg]
    have HC1 : Hid (∀ _ : Unit, _) := fun _ => HGD.out false _ hbW.out hg
    clear HGD HK hm
    simp only [gmCells] at HC1 ⊢
    go_enter Tryz.func18, Tryz.ntmps18
    go_wp2_with (go_at_call 27; refine (HC1.out ()).mono ?_; rintro e w1 ⟨rfl, hb1⟩)
    go_ret2
    refine ⟨none, 0, by rw [R.out, RK.out]; rfl, ?_, hbW.out.trans (hb1.mono hbW.out.size)⟩
    rw [R.out]; exact CellsAt.nil
  · have hsz := (Nl.sizes_of hg).1
    have HC1 : Hid (∀ _ : Unit, _) := fun _ => HGD.out true _ hbW.out hg
    have HAS : Hid (∀ (r : Bool) (W : World), Below w.heap.size w W → Fi.syms (g.terms.length + g.names.length) l = r → Calls Tryz.prog 33 #[.agg (gmCells g ⟨ta, tc, na, nc, ra, rac⟩), .slice ao l.length c] W fun e w' => e = .returned (.bool r) ∧ Below W.heap.size W w') := fun r W hW hr => allSyms_is r g _ _ rfl (by omega) l h4 ao c W (HL.out.later hW).size hr
    clear HGD
    cases hs : Fi.syms (g.terms.length + g.names.length) l
    · have R : Hid (Fi.ofG g l = []) := by show _ = _; simp [Fi.ofG, Fi.okG, hs]
      have RK : Hid (k = 1) := by show _ = _; rw [← HK.out]; simp [Fi.okG, hs]
      have HA1 : Hid (∀ W : World, Below w.heap.size w W → _) := fun W hW => HAS.out false W hW hs
      clear HAS HK hm
      simp only [gmCells] at HC1 HA1 ⊢
      go_enter Tryz.func18, Tryz.ntmps18
      go_wp2_with (go_at_call 27; fail)
      generalize (w.alloc (Obj.cells #[.slice ta g.terms.length tc, .slice na g.names.length nc, .slice ra g.rules.length rac] 25)) = W at *
      refine (HC1.out ()).mono ?_
      rintro e w1 ⟨rfl, hb1⟩
      have HB1 : Hid (Below w.heap.size w w1) := hbW.out.trans (hb1.mono hbW.out.size)
      obtain ⟨g0, g1, g2, _⟩ := cells_three_z ((hb1.block _ (Array.getElem?_eq_some_iff.1 B0.out).1).trans B0.out)
      have hz := Nat.lt_of_lt_of_le (Array.getElem?_eq_some_iff.1 B0.out).1 hb1.size
      clear hb1 B0
      go_wp2_with (go_at_call 33; refine Calls.mono (HA1.out _ HB1.out) ?_; rintro e w2 ⟨rfl, hb2⟩)
      go_ret2
      refine ⟨none, 0, by rw [R.out, RK.out]; rfl, ?_, HB1.out.trans (hb2.mono HB1.out.size)⟩
      rw [R.out]; exact CellsAt.nil
    · have R : Hid (Fi.ofG g l = Fi.rise (Fi.ofL (Nl.of g) (Fi.tab g) g.terms.length l)) := by show _ = _; simp [Fi.ofG, Fi.okG, hg, hs]
      have RK : Hid (k = 0) := by show _ = _; rw [← HK.out]; simp [Fi.okG, hg, hs]
      have HA1 : Hid (∀ W : World, Below w.heap.size w W → _) := fun W hW => HAS.out true W hW hs
      have HIN : Hid _ := Fi.syms_iff.1 hs
      have HSE : Hid (∀ W : World, Below w.heap.size w W → _) := fun W hW => settled_any g ⟨ta, tc, na, nc, ra, rac⟩ _ W rfl hg hm (HG.out.next hW)
      have hnl : (Nl.of g).length = g.terms.length + g.names.length := Nl.of_len hg
      have HOR : Hid (∀ (no : Option Addr) (nnc L S C : Nat) (Bs : List Nat) (W : World), Below w.heap.size w W → BoolsAt W.heap.size W no (Nl.of g) → RowsAt S g.terms.length Bs (Fi.tab g) W → Calls Tryz.prog 35 #[.agg (fCells no nnc L S C (g.terms.length + g.names.length)), .slice ao l.length c] W fun e w' => ∃ ao c, e = .returned (.slice ao (Fi.rise (Fi.ofL (Nl.of g) (Fi.tab g) g.terms.length l)).length c) ∧ Hid (IntsAt w'.heap.size w' ao (Fi.rise (Fi.ofL (Nl.of g) (Fi.tab g) g.terms.length l))) ∧ Hid (Below W.heap.size W w')) :=
        fun no nnc L S C Bs W hW hn hR => ofRow_any (Nl.of g) (Fi.tab g) _ _ L S C nnc no ao Bs l c W hn hnl hR (Fi.tab_shape g).len (HL.out.later hW).size HIN.out hc h4 (by omega) (by omega)
      clear HAS HK hm
      simp only [gmCells] at HC1 HA1 HSE ⊢
      go_enter Tryz.func18, Tryz.ntmps18
      go_wp2_with (go_at_call 27; fail)
      generalize (w.alloc (Obj.cells #[.slice ta g.terms.length tc, .slice na g.names.length nc, .slice ra g.rules.length rac] 25)) = W at *
      refine (HC1.out ()).mono ?_
      rintro e w1 ⟨rfl, hb1⟩
      have HB1 : Hid (Below w.heap.size w w1) := hbW.out.trans (hb1.mono hbW.out.size)
      have B1 : Hid _ := (hb1.block _ (Array.getElem?_eq_some_iff.1 B0.out).1).trans B0.out
      obtain ⟨g0, g1, g2, _⟩ := cells_three_z B1.out
      have hz := (Array.getElem?_eq_some_iff.1 B1.out).1
      clear hb1 B0 HC1
      go_wp2_with (go_at_call 33; fail)
      refine Calls.mono (HA1.out _ HB1.out) ?_
      rintro e w2 ⟨rfl, hb2⟩
      have HB2 : Hid (Below w.heap.size w w2) := HB1.out.trans (hb2.mono HB1.out.size)
      have B2 : Hid _ := (hb2.block _ hz).trans B1.out
      clear hb2 B1 HA1 g0 g1 g2 hz
      obtain ⟨g0, g1, g2, _⟩ := cells_three_z B2.out
      have hz := (Array.getElem?_eq_some_iff.1 B2.out).1
      go_wp2_with (go_at_call 34; fail)
      refine Calls.mono (HSE.out _ HB2.out) ?_
      rintro e w3 ⟨no, nnc, L, S, C, rfl, Bs, hE⟩
      have HB3 : Hid (Below w.heap.size w w3) := HB2.out.trans (hE.out.below.mono HB2.out.size)
      have HO1 : Hid _ := HOR.out no nnc L S C Bs w3 HB3.out hE.out.nul hE.out.rs
      clear hE HOR HSE g0 g1 g2 hz B2
      go_wp2_with (go_at_call 35; refine Calls.mono HO1.out ?_; rintro e w4 ⟨xo, xc, rfl, hx, hb4⟩)
      go_ret2
      refine ⟨xo, xc, by rw [R.out, RK.out]; rfl, ?_, HB3.out.trans (hb4.out.mono HB3.out.size)⟩
      rw [R.out]; exact hx
end Go.Proofs.YtdocbgfpnaiijaaGreat
