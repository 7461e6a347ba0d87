/-
  Layer 3 (grammar): Good: whether any grammar may be.
-/
import Derived.Test.YtdjjconccneaiaaGreatGrGood3
import Derived.Test.YtdjjconccneaiaaGreatGrGood5
namespace Go.Proofs.YtdjjconccneaiaaGreat
open Go.RowKit

theorem fits_right {g : Gr.Gm} (h : Gr.each (Gr.fits g) g.rules = true) : ∀ x ∈ g.rules, x.2.length ≤ 8 := fun x hx => by
  obtain ⟨k, hk, rfl⟩ := List.getElem_of_mem hx
  have := (Gr.each_get h k hk).1
  simp only [Gr.fits, Bool.and_eq_true, decide_eq_true_eq] at this
  exact this.1.2

set_option maxRecDepth 100000 in
set_option maxHeartbeats 3200000 in
theorem good_is (r : Bool) (g : Gr.Gm) (A : GA) (w : World) (hm : ∀ x ∈ g.rules, x.2.length ≤ maxLen) (h : GmAt w.heap.size w g A) (hr : Gr.good g = r) :
    Calls Tryz.prog 22 #[.agg (gmCells g A)] w fun e w' => e = .returned (.bool r) ∧ Below w.heap.size w w' := by
  have HR : Hid (Gr.good g = r) := hr
  obtain ⟨ta, tc, na, nc, ra, rc⟩ := A
  have HG : Hid (GmAt w.heap.size w g ⟨ta, tc, na, nc, ra, rc⟩) := h
  have HM : Hid _ := hm
  have HS : Hid (∀ (b : Bool) (W : World), Gr.sizes g = b → Calls Tryz.prog 41 #[.agg (gmCells g ⟨ta, tc, na, nc, ra, rc⟩)] W fun e w' => e = .returned (.bool b) ∧ Below W.heap.size W w') := fun b W hb => sizesFit_is b g _ W hb
  have hbW : Hid (Below w.heap.size w (w.alloc (Obj.cells #[.slice ta g.terms.length tc, .slice na g.names.length nc, .slice ra g.rules.length rc] 25))) := (Below.refl _ w).alloc (Nat.le_refl _) _
  have B0 : Hid ((w.alloc (Obj.cells #[.slice ta g.terms.length tc, .slice na g.names.length nc, .slice ra g.rules.length rc] 25)).heap[w.heap.size]? = some (.cells #[.slice ta g.terms.length tc, .slice na g.names.length nc, .slice ra g.rules.length rc] 25 (0, 0))) := heap_alloc_new w _
  have hWs : Hid ((w.alloc (Obj.cells #[.slice ta g.terms.length tc, .slice na g.names.length nc, .slice ra g.rules.length rc] 25)).heap.size = w.heap.size + 1) := by show _ = _; simp
  clear h hr hm
  simp only [gmCells] at HS ⊢
  cases hs : Gr.sizes g
  · have R : Hid (r = false) := by show _ = _; rw [← HR.out]; simp [Gr.good, hs]
    go_enter Tryz.func22, Tryz.ntmps22
    go_wp2_with fail
    refine (HS.out _ _ hs).mono ?_
    rintro e w1 ⟨rfl, hb1⟩
    go_wp2_with fail
    go_ret
    exact ⟨ret_bool R.out.symm, hbW.out.trans (hb1.mono hbW.out.size)⟩
  · have hsz := of_decide_eq_true hs
    have h14 : g.terms.length ≤ 4000 ∧ g.names.length ≤ 4000 := ⟨by omega, by omega⟩
    have HNF : Hid (∀ (b : Bool) (W : World), Below w.heap.size w W → Gr.each (fun s => Lx.isName s.data.toList) g.names = b → Calls Tryz.prog 42 #[.slice na g.names.length nc, .func (.func 43) #[] #[]] W fun e w' => e = .returned (.bool b) ∧ w' = W) :=
      fun b W hW hb => namesFit_is b g.names (by omega) HG.out.ntext na nc HG.out.ncap W (HG.out.names.later hW).size hb
    have HTF : Hid (∀ (b : Bool) (W : World), Below w.heap.size w W → Gr.each (fun s => Lx.isTerm s.data.toList) g.terms = b → Calls Tryz.prog 42 #[.slice ta g.terms.length tc, .func (.func 44) #[] #[]] W fun e w' => e = .returned (.bool b) ∧ w' = W) :=
      fun b W hW hb => termsFit_is b g.terms (by omega) HG.out.ttext ta tc HG.out.tcap W (HG.out.terms.later hW).size hb
    have HRF : Hid (∀ (b : Bool) (W : World), Below w.heap.size w W → Gr.each (Gr.fits g) g.rules = b → Calls Tryz.prog 45 #[.agg (gmCells g ⟨ta, tc, na, nc, ra, rc⟩)] W fun e w' => e = .returned (.bool b) ∧ Below W.heap.size W w') :=
      fun b W hW hb => rulesFit_is b g _ W h14 (by omega) HM.out (HG.out.later hW).size hb
    have HNO : Hid (∀ (b : Bool) (W : World), Below w.heap.size w W → Gr.inOrder (g.rules.map (·.1)) g.terms.length ((g.terms.length : Int) + g.names.length) = b → Calls Tryz.prog 46 #[.agg (gmCells g ⟨ta, tc, na, nc, ra, rc⟩)] W fun e w' => e = .returned (.bool b) ∧ Below W.heap.size W w') :=
      fun b W hW hb => namesInOrder_is b g _ W h14 (by omega) (HG.out.later hW).size hb
    have HTO : Hid (Gr.each (Gr.fits g) g.rules = true → ∀ (b : Bool) (W : World), Below w.heap.size w W → Gr.inOrder (Gr.seen g) 0 g.terms.length = b → Calls Tryz.prog 47 #[.agg (gmCells g ⟨ta, tc, na, nc, ra, rc⟩)] W fun e w' => e = .returned (.bool b) ∧ Below W.heap.size W w') :=
      fun h8 b W hW hb => termsInOrder_is b g _ W (by omega) (fits_right h8) (HG.out.later hW).size hb
    simp only [gmCells] at HRF HNO HTO
    clear hsz h14
    have HCS : Hid (∀ W : World, _) := fun W => HS.out true W hs
    clear HS
    go_enter Tryz.func22, Tryz.ntmps22
    go_wp2_with fail
    generalize (w.alloc (Obj.cells #[.slice ta g.terms.length tc, .slice na g.names.length nc, .slice ra g.rules.length rc] 25)) = W at *
    refine (HCS.out _).mono ?_
    rintro e w1 ⟨rfl, hb1⟩
    have HB1 : Hid (Below w.heap.size w w1) := hbW.out.trans (hb1.mono hbW.out.size)
    have B1 : Hid (w1.heap[w.heap.size]? = some (.cells #[.slice ta g.terms.length tc, .slice na g.names.length nc, .slice ra g.rules.length rc] 25 (0, 0))) := (hb1.block _ (by rw [hWs.out]; omega)).trans B0.out
    have hz1 : w.heap.size < w1.heap.size := by have := hb1.size; rw [hWs.out] at this; omega
    obtain ⟨g0, g1, g2, _⟩ := cells_three_z B1.out
    clear hb1 B0 hbW HCS
    cases hn : Gr.each (fun s => Lx.isName s.data.toList) g.names
    · have R : Hid (r = false) := by show _ = _; rw [← HR.out]; simp [Gr.good, hs, hn]
      have HC : Hid (∀ _ : Unit, _) := fun _ => HNF.out _ w1 HB1.out hn
      clear HNF HTF HRF HNO HTO hs hn HR
      go_wp2_with (first | (go_at_call 42; refine (HC.out ()).mono ?_; rintro e w2 ⟨rfl, rfl⟩))
      go_ret
      exact ⟨ret_bool R.out.symm, HB1.out⟩
    · have HC : Hid (∀ _ : Unit, _) := fun _ => HNF.out _ w1 HB1.out hn
      cases ht : Gr.each (fun s => Lx.isTerm s.data.toList) g.terms
      · have R : Hid (r = false) := by show _ = _; rw [← HR.out]; simp [Gr.good, hs, hn, ht]
        have HC2 : Hid (∀ _ : Unit, _) := fun _ => HTF.out _ w1 HB1.out ht
        clear HNF HTF HRF HNO HTO hs hn ht HR
        go_wp2_with (first | (go_at_call 42; refine (HC.out ()).mono ?_; rintro e w2 ⟨rfl, rfl⟩; clear HC) | (go_at_call 42; refine (HC2.out ()).mono ?_; rintro e w2 ⟨rfl, rfl⟩))
        go_ret
        exact ⟨ret_bool R.out.symm, HB1.out⟩
      · have HC2 : Hid (∀ _ : Unit, _) := fun _ => HTF.out _ w1 HB1.out ht
        cases hf : Gr.each (Gr.fits g) g.rules
        · have R : Hid (r = false) := by show _ = _; rw [← HR.out]; simp [Gr.good, hs, hn, ht, hf]
          have HC3 : Hid (∀ _ : Unit, _) := fun _ => HRF.out _ w1 HB1.out hf
          clear HNF HTF HRF HNO HTO hs hn ht hf HR
          go_wp2_with (first | (go_at_call 42; refine (HC.out ()).mono ?_; rintro e w2 ⟨rfl, rfl⟩; clear HC) | (go_at_call 42; refine (HC2.out ()).mono ?_; rintro e w2 ⟨rfl, rfl⟩) | (go_at_call 45; refine (HC3.out ()).mono ?_; rintro e w3 ⟨rfl, hb3⟩))
          go_ret
          exact ⟨ret_bool R.out.symm, HB1.out.trans (hb3.mono HB1.out.size)⟩
        · have HC3 : Hid (∀ _ : Unit, _) := fun _ => HRF.out _ w1 HB1.out hf
          have HTO' : Hid _ := HTO.out hf
          clear HTO
          go_wp2_with (first | (go_at_call 42; refine (HC.out ()).mono ?_; rintro e w2 ⟨rfl, rfl⟩; clear HC) | (go_at_call 42; refine (HC2.out ()).mono ?_; rintro e w2 ⟨rfl, rfl⟩) | (go_at_call 45; fail))
          refine (HC3.out ()).mono ?_
          rintro e w3 ⟨rfl, hb3⟩
          have HB3 : Hid (Below w.heap.size w w3) := HB1.out.trans (hb3.mono HB1.out.size)
          have B3 : Hid (w3.heap[w.heap.size]? = some (.cells #[.slice ta g.terms.length tc, .slice na g.names.length nc, .slice ra g.rules.length rc] 25 (0, 0))) := (hb3.block _ hz1).trans B1.out
          have hz3 : w.heap.size < w3.heap.size := Nat.lt_of_lt_of_le hz1 hb3.size
          clear g0 g1 g2 hb3 B1
          obtain ⟨g0, g1, g2, _⟩ := cells_three_z B3.out
          cases ho : Gr.inOrder (g.rules.map (·.1)) g.terms.length ((g.terms.length : Int) + g.names.length)
          · have R : Hid (r = false) := by show _ = _; rw [← HR.out]; simp [Gr.good, hs, hn, ht, hf, ho]
            have HC4 : Hid (∀ _ : Unit, _) := fun _ => HNO.out _ w3 HB3.out ho
            clear HNF HTF HRF HNO HTO' hs hn ht hf ho HR
            go_wp2_with (first | (go_at_call 46; refine (HC4.out ()).mono ?_; rintro e w4 ⟨rfl, hb4⟩))
            go_ret
            exact ⟨ret_bool R.out.symm, HB3.out.trans (hb4.mono HB3.out.size)⟩
          · have HC4 : Hid (∀ _ : Unit, _) := fun _ => HNO.out _ w3 HB3.out ho
            have HE : Hid (Gr.inOrder (Gr.seen g) 0 g.terms.length = r) := by show _ = _; rw [← HR.out]; simp [Gr.good, hs, hn, ht, hf, ho]
            clear HNF HTF HRF HNO hs hn ht hf ho HR
            go_wp2_with (first | (go_at_call 46; fail))
            refine (HC4.out ()).mono ?_
            rintro e w4 ⟨rfl, hb4⟩
            have HB4 : Hid (Below w.heap.size w w4) := HB3.out.trans (hb4.mono HB3.out.size)
            have B4 : Hid (w4.heap[w.heap.size]? = some (.cells #[.slice ta g.terms.length tc, .slice na g.names.length nc, .slice ra g.rules.length rc] 25 (0, 0))) := (hb4.block _ hz3).trans B3.out
            have HC5 : Hid (∀ _ : Unit, _) := fun _ => HTO'.out _ w4 HB4.out HE.out
            clear g0 g1 g2 hb4 B3 HTO' HC4
            obtain ⟨g0, g1, g2, _⟩ := cells_three_z B4.out
            go_wp2_with (first | (go_at_call 47; refine (HC5.out ()).mono ?_; rintro e w5 ⟨rfl, hb5⟩))
            go_ret
            exact ⟨rfl, HB4.out.trans (hb5.mono HB4.out.size)⟩
end Go.Proofs.YtdjjconccneaiaaGreat
