/-
  The law NullableDerives, walked: it returns true, of every grammar, number and row of numbers.
-/
import Derived.Test.YtimjopaedfefmaaNlLaw
import Derived.Test.YtimjopaedfefmaaGrOwn
namespace Go.Proofs.Ytimjopaedfefmaa
open Go.RowKit Go.Conc

theorem Nl.some_is {g : Gr.Gm} (hg : Gr.good g = true) (s : Int) : g.rules.any (fun r => decide (r.1 = s) && Nl.allIn (Nl.of g) r.2) = Nl.isAt (Nl.of g) s := by
  have hf := Nl.fit_of hg
  have e : Nl.of g = Nl.nulls g.rules (g.terms.length + g.names.length) := by unfold Nl.of; rw [if_pos hg]
  rw [e, Bool.eq_iff_iff, List.any_eq_true]
  constructor
  · rintro ⟨r, hr, h⟩
    rw [Bool.and_eq_true, decide_eq_true_eq] at h
    obtain ⟨rfl, h⟩ := h
    exact Nl.nulls_closed hf r hr h
  · intro h
    obtain ⟨r, hr, rfl, hx⟩ := ((Nl.nulls_at hf s).1 h).some
    refine ⟨r, hr, ?_⟩
    rw [Bool.and_eq_true, decide_eq_true_eq]
    exact ⟨rfl, Nl.allIn_iff.2 fun x hm => (Nl.nulls_at hf x).2 (hx x hm)⟩
theorem Nl.rule_at {g : Gr.Gm} (hg : Gr.good g = true) (k : Nat) (hk : k < g.rules.length) : Nl.rule g (k : Int) = Nl.allIn (Nl.of g) g.rules[k].2 := by
  simp [Nl.rule, Nl.all, hg, hk]
theorem Nl.term_no {g : Gr.Gm} (hg : Gr.good g = true) (s : Nat) (h : s < g.terms.length) : Nl.isAt (Nl.of g) (s : Int) = false := by
  cases e : Nl.isAt (Nl.of g) (s : Int)
  · rfl
  · have hf := Nl.fit_of hg
    have e' : Nl.of g = Nl.nulls g.rules (g.terms.length + g.names.length) := by unfold Nl.of; rw [if_pos hg]
    rw [e'] at e
    obtain ⟨r, hr, hs, _⟩ := ((Nl.nulls_at hf _).1 e).some
    have := (hf.left r hr).1
    omega
theorem Nl.of_more {g h : Gr.Gm} (hg : Gr.good g = true) (hh : Gr.good h = true) (hr : ∀ r ∈ g.rules, r ∈ h.rules) (s : Int) (q : Nl.isAt (Nl.of g) s = true) : Nl.isAt (Nl.of h) s = true := by
  have e1 : Nl.of g = Nl.nulls g.rules (g.terms.length + g.names.length) := by unfold Nl.of; rw [if_pos hg]
  have e2 : Nl.of h = Nl.nulls h.rules (h.terms.length + h.names.length) := by unfold Nl.of; rw [if_pos hh]
  rw [e1, Nl.nulls_at (Nl.fit_of hg)] at q
  rw [e2, Nl.nulls_at (Nl.fit_of hh)]
  exact q.more hr
theorem any_take {α : Type} (f : α → Bool) (l : List α) (q : Nat) (h : q < l.length) : (l.take (q + 1)).any f = ((l.take q).any f || f l[q]) := by
  rw [List.take_add_one, List.getElem?_eq_getElem h, List.any_append]
  simp

set_option maxRecDepth 100000 in
set_option maxHeartbeats 3200000 in
theorem nullableDerives_out (g : Gr.Gm) (A : GA) (n : Int) (ao : Option Addr) (c : Nat) (l : List Int) (w : World) (h : GmAt w.heap.size w g A) (hm : ∀ r ∈ g.rules, r.2.length ≤ maxLen) (hl : Gr.large g = true ∨ Gr.large g = false ∧ (Gr.good g = false ∨ Gr.good g = true ∧ (8 < l.length ∨ l.length ≤ 8 ∧ 60 ≤ g.rules.length))) :
    Calls Try.prog 6 #[.agg (gmCells g A), .int .u8 n, .slice ao l.length c] w fun e w' => e = .returned (.bool true) ∧ Below w.heap.size w w' := by
  obtain ⟨ta, tc, na, nc, ra, rc⟩ := A
  have hbW : Hid (Below w.heap.size w (w.alloc (Obj.cells #[.slice ta g.terms.length tc, .slice na g.names.length nc, .slice ra g.rules.length rc] 26))) := (Below.refl _ w).alloc (Nat.le_refl _) _
  have b0 : Hid ((w.alloc (Obj.cells #[.slice ta g.terms.length tc, .slice na g.names.length nc, .slice ra g.rules.length rc] 26)).heap[w.heap.size]? = some (.cells #[.slice ta g.terms.length tc, .slice na g.names.length nc, .slice ra g.rules.length rc] 26 (0, 0))) := heap_alloc_new w _
  have HLG : Hid (∀ (r : Bool) (W : World), Below w.heap.size w W → Gr.large g = r → Calls Try.prog 14 #[.agg (gmCells g ⟨ta, tc, na, nc, ra, rc⟩)] W fun e w' => e = .returned (.bool r) ∧ Below W.heap.size W w') := fun r W hW hl => large_is r g _ W hm (h.later hW).size hl
  have HGD : Hid (∀ (r : Bool) (W : World), Below w.heap.size w W → Gr.good g = r → Calls Try.prog 26 #[.agg (gmCells g ⟨ta, tc, na, nc, ra, rc⟩)] W fun e w' => e = .returned (.bool r) ∧ Below W.heap.size W w') := fun r W hW hr => refGood_any r g _ W hm (h.next hW) (by rw [Gr.refGood_is]; exact hr)
  simp only [gmCells] at HLG HGD ⊢
  clear h hm
  rcases hl with hl | ⟨hl, ho⟩
  · have HL1 : Hid (∀ _ : Unit, _) := fun _ => HLG.out true _ hbW.out hl
    clear HLG hl HGD
    go_enter Try.func6, Try.ntmps6
    go_wp2_with (first | (go_at_call 14; refine Calls.mono (HL1.out ()) ?_; rintro e w1 ⟨rfl, hb1⟩) | (go_at_call 16; refine Calls.mono (nwakes_any _) ?_; rintro e w3 ⟨rfl, hb3⟩))
    go_ret
    exact ⟨rfl, (hbW.out.trans (hb1.mono hbW.out.size)).trans (hb3.mono (hbW.out.trans (hb1.mono hbW.out.size)).size)⟩
  · have HL1 : Hid (∀ _ : Unit, _) := fun _ => HLG.out false _ hbW.out hl
    clear HLG hl
    rcases ho with hg | ⟨hg, h8⟩
    · have HG1 : Hid (∀ (W : World), Below w.heap.size w W → _) := fun W hW => HGD.out false W hW hg
      clear hg HGD
      go_enter Try.func6, Try.ntmps6
      go_wp2_with (go_at_call 14; fail)
      generalize (w.alloc (Obj.cells #[.slice ta g.terms.length tc, .slice na g.names.length nc, .slice ra g.rules.length rc] 26)) = W at *
      refine Calls.mono (HL1.out ()) ?_
      rintro e w1 ⟨rfl, hb1⟩
      have HB1 : Hid (Below w.heap.size w w1) := hbW.out.trans (hb1.mono hbW.out.size)
      obtain ⟨g0, g1, g2, _⟩ := cells_three_z ((hb1.block _ (Array.getElem?_eq_some_iff.1 b0.out).1).trans b0.out)
      clear hb1 b0 hbW HL1
      go_wp2_with (go_at_call 26; fail)
      refine Calls.mono (HG1.out _ HB1.out) ?_
      rintro e w2 ⟨rfl, hb2⟩
      have HB2 : Hid (Below w.heap.size w w2) := HB1.out.trans (hb2.mono HB1.out.size)
      clear g0 g1 g2 hb2 HB1 HG1
      go_wp2_with (go_at_call 16; refine Calls.mono (nwakes_any _) ?_; rintro e w3 ⟨rfl, hb3⟩)
      go_ret
      exact ⟨rfl, HB2.out.trans (hb3.mono HB2.out.size)⟩
    · have HG1 : Hid (∀ (W : World), Below w.heap.size w W → _) := fun W hW => HGD.out true W hW hg
      clear hg HGD
      go_enter Try.func6, Try.ntmps6
      go_wp2_with (go_at_call 14; fail)
      generalize (w.alloc (Obj.cells #[.slice ta g.terms.length tc, .slice na g.names.length nc, .slice ra g.rules.length rc] 26)) = W at *
      refine Calls.mono (HL1.out ()) ?_
      rintro e w1 ⟨rfl, hb1⟩
      have HB1 : Hid (Below w.heap.size w w1) := hbW.out.trans (hb1.mono hbW.out.size)
      have b1 : Hid _ := (hb1.block _ (Array.getElem?_eq_some_iff.1 b0.out).1).trans b0.out
      obtain ⟨g0, g1, g2, _⟩ := cells_three_z b1.out
      clear hb1 b0 hbW HL1
      go_wp2_with (go_at_call 26; fail)
      refine Calls.mono (HG1.out _ HB1.out) ?_
      rintro e w2 ⟨rfl, hb2⟩
      have HB2 : Hid (Below w.heap.size w w2) := HB1.out.trans (hb2.mono HB1.out.size)
      have b2 : Hid _ := (hb2.block _ (Array.getElem?_eq_some_iff.1 b1.out).1).trans b1.out
      clear g0 g1 g2
      obtain ⟨g0, g1, g2, _⟩ := cells_three_z b2.out
      clear hb2 HB1 HG1 b1 b2
      rcases h8 with h8 | ⟨h8, h60⟩
      · have h8i : (8 : Int) < (l.length : Int) := by omega
        go_wp2_with (go_at_call 16; refine Calls.mono (nwakes_any _) ?_; rintro e w3 ⟨rfl, hb3⟩)
        go_ret
        exact ⟨rfl, HB2.out.trans (hb3.mono HB2.out.size)⟩
      · have h8i : ¬ (8 : Int) < (l.length : Int) := by omega
        have h60i : (60 : Int) ≤ (g.rules.length : Int) := by omega
        go_wp2_with (go_at_call 16; refine Calls.mono (nwakes_any _) ?_; rintro e w3 ⟨rfl, hb3⟩)
        go_ret
        exact ⟨rfl, HB2.out.trans (hb3.mono HB2.out.size)⟩
end Go.Proofs.Ytimjopaedfefmaa
