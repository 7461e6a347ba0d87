/-
  The law DependOrder: it returns true, of every grammar, without any occurrences.
-/
import Derived.Test.YtdocbgfpnaiijaaDpLaw
import Derived.Test.YtdocbgfpnaiijaaGrRefGood
namespace Go.Proofs.Ytdocbgfpnaiijaa
open Go.RowKit Go.Conc

theorem Dp.first_or (ts : List (List Bool)) (n : Nat) : (∀ o, o < n → Dp.both ts n o = false) ∨ ∃ f, f < n ∧ Dp.both ts n f = true ∧ ∀ o, o < f → Dp.both ts n o = false := by
  have : ∀ k, k ≤ n → (∀ o, o < k → Dp.both ts n o = false) ∨ ∃ f, f < k ∧ Dp.both ts n f = true ∧ ∀ o, o < f → Dp.both ts n o = false := by
    intro k
    induction k with
    | zero => intro _; exact .inl fun o ho => by omega
    | succ k ih =>
      intro hk
      rcases ih (by omega) with h | ⟨f, h1, h2⟩
      · cases hb : Dp.both ts n k
        · exact .inl fun o ho => by
            by_cases e : o = k
            · subst e; exact hb
            · exact h o (by omega)
        · exact .inr ⟨k, by omega, hb, h⟩
      · exact .inr ⟨f, by omega, h2⟩
  exact this n (Nat.le_refl _)
theorem Dp.compG_get {g : Gr.Gm} {wo : List (Int × Int)} (i : Nat) (hi : i < (Dp.compG g wo).length) : (Dp.compG g wo)[i] = ((Dp.first (Dp.onG g wo) i : Nat) : Int) := by
  simp only [Dp.compG, List.getElem_map, List.getElem_range]
theorem Dp.comp_own {g : Gr.Gm} {wo : List (Int × Int)} (hg : Gr.good g = true) (i : Nat) (hi : i < (Dp.compG g wo).length) : ∃ f : Nat, ∃ hf : f < (Dp.compG g wo).length, f ≤ i ∧ (Dp.compG g wo)[i] = (f : Int) ∧ (Dp.compG g wo)[f] = (f : Int) := by
  rcases Dp.first_or (Dp.onG g wo) i with h | ⟨f, h1, h2, h3⟩
  · have e := Dp.first_none h
    exact ⟨i, hi, Nat.le_refl _, by rw [Dp.compG_get, e], by rw [Dp.compG_get, e]⟩
  · have e := Dp.first_some h1 h3 h2
    have hf : f < (Dp.compG g wo).length := by omega
    refine ⟨f, hf, by omega, by rw [Dp.compG_get, e], ?_⟩
    rw [Dp.compG_get, Dp.first_none fun o ho => ?_]
    cases hb : Dp.both (Dp.onG g wo) f o
    · rfl
    · have := h3 o ho
      simp only [Dp.both, Bool.and_eq_true, Dp.onG_has hg] at h2 hb
      have h4 : Dp.both (Dp.onG g wo) i o = true := by
        simp only [Dp.both, Bool.and_eq_true, Dp.onG_has hg]
        exact ⟨h2.1.trans hb.1, hb.2.trans h2.2⟩
      rw [this] at h4; cases h4
theorem Dp.spots_all (g : Gr.Gm) : Dp.spotsG g (Dp.spotsG g []) = [] := by
  unfold Dp.spotsG
  split
  · refine List.eq_nil_iff_forall_not_mem.2 fun s hs => ?_
    obtain ⟨r, hr, k, hk, h1, h2, h3⟩ := Dp.mem_but.1 hs
    exact h2 (Dp.mem_but.2 ⟨r, hr, k, hk, h1, List.not_mem_nil, h3⟩)
  · rfl
theorem Dp.inner_all (g : Gr.Gm) : Dp.innerG g (Dp.spotsG g []) = [] := by
  unfold Dp.innerG; rw [Dp.spots_all]; rfl
theorem Dp.comp_all {g : Gr.Gm} (hg : Gr.good g = true) (i : Nat) (hi : i < (Dp.compG g (Dp.spotsG g [])).length) : (Dp.compG g (Dp.spotsG g []))[i] = (i : Int) := by
  rw [Dp.compG_get, Dp.first_none fun o ho => ?_]
  cases hb : Dp.both (Dp.onG g (Dp.spotsG g [])) i o
  · rfl
  · simp only [Dp.both, Bool.and_eq_true, Dp.onG_has hg] at hb
    have : False := Fo.Reach.all (P := fun _ _ => False) (fun a b q => by
      obtain ⟨r, hr, k, hk, h1, h2, _⟩ := q
      refine h2 ?_
      unfold Dp.spotsG
      rw [if_pos hg]
      exact Dp.mem_but.2 ⟨r, hr, k, hk, h1, List.not_mem_nil, rfl⟩) (fun _ _ _ _ q => q) hb.1
    exact this.elim

set_option maxRecDepth 100000 in
set_option maxHeartbeats 12800000 in
theorem dependOrder_walk (g : Gr.Gm) (A : GA) (so : Option Addr) (sc : Nat) (wo : List (Int × Int)) (w : World) (h : GmAt w.heap.size w g A) (hr : ∀ r ∈ g.rules, r.2.length ≤ maxLen ∧ rlWf r) (hwo : SpotsAt w.heap.size w so wo) (hc : wo.length ≤ sc ∧ sc ≤ maxLen) :
    Calls Try.prog 6 #[.agg (gmCells g A), .slice so wo.length sc] w fun e w' => e = .returned (.bool true) ∧ Below w.heap.size w w' := by
  have hm : ∀ r ∈ g.rules, r.2.length ≤ maxLen := fun r h => (hr r h).1
  obtain ⟨ta, tc, na, nc, ra, rc⟩ := A
  have HG : Hid (GmAt w.heap.size w g ⟨ta, tc, na, nc, ra, rc⟩) := h
  have HWO : Hid (SpotsAt w.heap.size w so wo) := hwo
  have HM : Hid _ := hm
  have hbW : Hid (Below w.heap.size w (w.alloc (Obj.cells #[.slice ta g.terms.length tc, .slice na g.names.length nc, .slice ra g.rules.length rc] 25))) := (Below.refl _ w).alloc (Nat.le_refl _) _
  have b0 : Hid ((w.alloc (Obj.cells #[.slice ta g.terms.length tc, .slice na g.names.length nc, .slice ra g.rules.length rc] 25)).heap[w.heap.size]? = some (.cells #[.slice ta g.terms.length tc, .slice na g.names.length nc, .slice ra g.rules.length rc] 25 (0, 0))) := heap_alloc_new w _
  have HBG : Hid (∀ (V : World), Below (w.alloc (Obj.cells #[.slice ta g.terms.length tc, .slice na g.names.length nc, .slice ra g.rules.length rc] 25)).heap.size (w.alloc (Obj.cells #[.slice ta g.terms.length tc, .slice na g.names.length nc, .slice ra g.rules.length rc] 25)) V → Below w.heap.size w V ∧ V.heap[w.heap.size]? = some (.cells #[.slice ta g.terms.length tc, .slice na g.names.length nc, .slice ra g.rules.length rc] 25 (0, 0))) := fun V hV => ⟨hbW.out.trans (hV.mono hbW.out.size), (hV.block _ (Array.getElem?_eq_some_iff.1 b0.out).1).trans b0.out⟩
  have HLG : Hid (∀ (r : Bool) (W : World), Below w.heap.size w W → Gr.large g = r → Calls Try.prog 8 #[.agg (gmCells g ⟨ta, tc, na, nc, ra, rc⟩)] W fun e w' => e = .returned (.bool r) ∧ Below W.heap.size W w') := fun r W hW hl => large_is r g _ W hm (h.later hW).size hl
  have HGD : Hid (∀ (r : Bool) (W : World), Below w.heap.size w W → Gr.good g = r → Calls Try.prog 9 #[.agg (gmCells g ⟨ta, tc, na, nc, ra, rc⟩)] W fun e w' => e = .returned (.bool r) ∧ Below W.heap.size W w') := fun r W hW hr => refGood_any r g _ W hm (h.next hW) (by rw [Gr.refGood_is]; exact hr)
  have hc1 := hc.1
  have hc2 := hc.2
  unfold maxLen at hc2
  simp only [gmCells] at HLG HGD ⊢
  clear h hm hwo hr hc b0
  cases hl : Gr.large g
  · have HL1 : Hid (∀ _ : Unit, _) := fun _ => HLG.out false _ hbW.out hl
    clear HLG hl
    cases hg : Gr.good g
    · have HG1 : Hid (∀ (W : World), Below w.heap.size w W → _) := fun W hW => HGD.out false W hW hg
      clear hg HGD
      go_enter Try.func6, Try.ntmps6
      go_wp2_with (go_at_call 8; fail)
      generalize (w.alloc (Obj.cells #[.slice ta g.terms.length tc, .slice na g.names.length nc, .slice ra g.rules.length rc] 25)) = W at *
      refine Calls.mono (HL1.out ()) ?_
      rintro e w1 ⟨rfl, hb1⟩
      obtain ⟨HB1, b1⟩ := HBG.out w1 hb1
      have HW1 : Hid (Below W.heap.size W w1) := hb1
      have HB1' : Hid (Below w.heap.size w w1) := HB1
      obtain ⟨g0, g1, g2, _⟩ := cells_three_z b1
      have hgz := (Array.getElem?_eq_some_iff.1 b1).1
      clear hb1 b1 HB1 HL1
      go_wp2_with (go_at_call 9; fail)
      refine Calls.mono (HG1.out _ HB1'.out) ?_
      rintro e w2 ⟨rfl, hb2⟩
      have HW2 : Hid (Below W.heap.size W w2) := HW1.out.trans (hb2.mono HW1.out.size)
      obtain ⟨HB2', b2⟩ := HBG.out w2 HW2.out
      have HB2 : Hid (Below w.heap.size w w2) := HB2'
      clear g0 g1 g2 hgz hb2 HW1 HB1' HG1 HB2'
      go_wp2_with (go_at_call 15; refine Calls.mono (dwakes_any _) ?_; rintro e w3 ⟨rfl, hb3⟩)
      go_ret
      exact ⟨rfl, HB2.out.trans (hb3.mono HB2.out.size)⟩
    · have HG1 : Hid (∀ (W : World), Below w.heap.size w W → _) := fun W hW => HGD.out true W hW hg
      clear HGD
      by_cases h2 : 200 < wo.length
      · have h2i : (200 : Int) < (wo.length : Int) := by omega
        clear hg
        go_enter Try.func6, Try.ntmps6
        go_wp2_with (go_at_call 8; fail)
        generalize (w.alloc (Obj.cells #[.slice ta g.terms.length tc, .slice na g.names.length nc, .slice ra g.rules.length rc] 25)) = W at *
        refine Calls.mono (HL1.out ()) ?_
        rintro e w1 ⟨rfl, hb1⟩
        obtain ⟨HB1, b1⟩ := HBG.out w1 hb1
        have HW1 : Hid (Below W.heap.size W w1) := hb1
        have HB1' : Hid (Below w.heap.size w w1) := HB1
        obtain ⟨g0, g1, g2, _⟩ := cells_three_z b1
        have hgz := (Array.getElem?_eq_some_iff.1 b1).1
        clear hb1 b1 HB1 HL1
        go_wp2_with (go_at_call 9; fail)
        refine Calls.mono (HG1.out _ HB1'.out) ?_
        rintro e w2 ⟨rfl, hb2⟩
        have HW2 : Hid (Below W.heap.size W w2) := HW1.out.trans (hb2.mono HW1.out.size)
        obtain ⟨HB2', b2⟩ := HBG.out w2 HW2.out
        have HB2 : Hid (Below w.heap.size w w2) := HB2'
        clear g0 g1 g2 hgz hb2 HW1 HB1' HG1 HB2'
        go_wp2_with (go_at_call 15; refine Calls.mono (dwakes_any _) ?_; rintro e w3 ⟨rfl, hb3⟩)
        go_ret
        exact ⟨rfl, HB2.out.trans (hb3.mono HB2.out.size)⟩
      · have h2i : ¬ (200 : Int) < (wo.length : Int) := by omega
        go_enter Try.func6, Try.ntmps6
        go_wp2_with (go_at_call 8; fail)
        generalize (w.alloc (Obj.cells #[.slice ta g.terms.length tc, .slice na g.names.length nc, .slice ra g.rules.length rc] 25)) = W at *
        refine Calls.mono (HL1.out ()) ?_
        rintro e w1 ⟨rfl, hb1⟩
        obtain ⟨HB1, b1⟩ := HBG.out w1 hb1
        have HW1 : Hid (Below W.heap.size W w1) := hb1
        have HB1' : Hid (Below w.heap.size w w1) := HB1
        obtain ⟨g0, g1, g2, _⟩ := cells_three_z b1
        have hgz := (Array.getElem?_eq_some_iff.1 b1).1
        clear hb1 b1 HB1 HL1
        go_wp2_with (go_at_call 9; fail)
        refine Calls.mono (HG1.out _ HB1'.out) ?_
        rintro e w2 ⟨rfl, hb2⟩
        have HW2 : Hid (Below W.heap.size W w2) := HW1.out.trans (hb2.mono HW1.out.size)
        obtain ⟨HB2', b2⟩ := HBG.out w2 HW2.out
        have HB2 : Hid (Below w.heap.size w w2) := HB2'
        clear g0 g1 g2 hgz hb2 HW1 HB1' HG1 HB2'
        obtain ⟨_, bq⟩ := HBG.out w2 HW2.out
        obtain ⟨g0, g1, g2, _⟩ := cells_three_z bq
        have hgz := (Array.getElem?_eq_some_iff.1 bq).1
        clear bq
        go_wp2_with (go_at_call 23; fail)
        refine Calls.mono (dpcomps_own g ⟨ta, tc, na, nc, ra, rc⟩ wo so sc w2 HM.out (HG.out.next HB2.out) (HWO.out.next HB2.out) (by omega)) ?_
        rintro e w4 ⟨v4, rfl, hC4, hb4⟩
        obtain ⟨co, cc, rfl, hCI, _⟩ := OwnInts.read hC4.out
        have CI4 : Hid (IntsAt w4.heap.size w4 co (Dp.compG g wo)) := hCI
        have HW4 : Hid (Below W.heap.size W w4) := HW2.out.trans (hb4.out.mono HW2.out.size)
        have HP : Hid (∀ i (hi : i < (Dp.compG g wo).length), ∃ f : Nat, ∃ hf : f < (Dp.compG g wo).length, f ≤ i ∧ (Dp.compG g wo)[i] = (f : Int) ∧ (Dp.compG g wo)[f] = (f : Int)) := fun i hi => Dp.comp_own hg i hi
        have hcl : Hid ((Dp.compG g wo).length = g.names.length) := Dp.compG_len hg wo
        have hsz := (Nl.sizes_of hg).1
        have hsz2 := hsz.2.1
        have hne : (((Dp.compG g wo).length : Int) != (g.names.length : Int)) = false := by rw [hcl.out]; simp
        have hc40 : (Dp.compG g wo).length ≤ 40 := by rw [hcl.out]; exact hsz2
        clear hC4 hCI HB2 HW2 hb4 g0 g1 g2 hgz hsz hsz2 b2
        generalize Dp.compG g wo = cs at *
        obtain ⟨_, bq⟩ := HBG.out w4 HW4.out
        obtain ⟨g0, g1, g2, _⟩ := cells_three_z bq
        have hgz := (Array.getElem?_eq_some_iff.1 bq).1
        clear bq
        go_wp2_with fail
        clear g0 g1 g2 hgz
        go_loopw [6] (fun iv wr => ∃ i : Nat, i ≤ cs.length ∧ iv = .int .i64 i ∧ Hid (Below w4.heap.size w4 wr)) (fun iv _ => cs.length - (intOf iv).toNat)
        case atStart => exact ⟨0, Nat.zero_le _, rfl, Below.refl _ _⟩
        case round =>
          obtain ⟨i, hi, rfl, hB⟩ := hrel
          by_cases hil : i < cs.length
          · have hii : (i : Int) < (cs.length : Int) := by omega
            obtain ⟨f, hf, hfi, e1, e2⟩ := HP.out i hil
            have hC := CI4.out.later hB.out
            obtain ⟨xb, xof, rfl, _, _, x0⟩ := IntsAt.get hC i hil
            obtain ⟨b', o', e, _, _, x1⟩ := IntsAt.get hC f hf
            simp only [Option.some.injEq, Addr.mk.injEq] at e
            obtain ⟨rfl, rfl, _⟩ := e
            rw [e1] at x0
            rw [e2] at x1
            have hff : (f : Int) < (cs.length : Int) := by omega
            have hf0 : ¬ (f : Int) < 0 := by omega
            have hf1 : ¬ (i : Int) < (f : Int) := by omega
            clear hC e1 e2
            go_wp2_with fail
            go_quiet (fail)
            go_wp2_with fail
            go_roundw
            case rel => exact ⟨i + 1, by omega, by go_num, below_drewN hB.out _⟩
            case measure => simp [intOf]; omega
          · obtain rfl : i = cs.length := by omega
            have hii : ¬ (cs.length : Int) < (cs.length : Int) := by omega
            have HWr : Hid (Below W.heap.size W wr) := HW4.out.trans (hB.out.mono HW4.out.size)
            clear hB HW4 HP CI4 hne
            obtain ⟨_, bq⟩ := HBG.out wr HWr.out
            obtain ⟨g0, g1, g2, _⟩ := cells_three_z bq
            have hgz := (Array.getElem?_eq_some_iff.1 bq).1
            clear bq
            go_wp2_with (go_at_call 20; fail)
            refine Calls.mono (dpspots_own g ⟨ta, tc, na, nc, ra, rc⟩ wr HM.out (HG.out.next (HBG.out wr HWr.out).1)) ?_
            rintro e w6 ⟨v6, rfl, hS6, hb6⟩
            obtain ⟨zo, zc, rfl, hSI⟩ := OwnSpots.read hS6.out
            have SI6 : Hid (SpotsAt w6.heap.size w6 zo (Dp.spotsG g [])) := hSI
            have HW6 : Hid (Below W.heap.size W w6) := HWr.out.trans (hb6.out.mono HWr.out.size)
            have hl4 := Dp.spotsG_len g []
            clear hS6 hSI HWr hb6 g0 g1 g2 hgz
            obtain ⟨_, bq⟩ := HBG.out w6 HW6.out
            obtain ⟨g0, g1, g2, _⟩ := cells_three_z bq
            have hgz := (Array.getElem?_eq_some_iff.1 bq).1
            clear bq
            go_wp2_with (go_at_call 23; fail)
            refine Calls.mono (dpcomps_own g ⟨ta, tc, na, nc, ra, rc⟩ (Dp.spotsG g []) zo zc w6 HM.out (HG.out.next (HBG.out w6 HW6.out).1) SI6.out (by omega)) ?_
            rintro e w7 ⟨v7, rfl, hD7, hb7⟩
            obtain ⟨eo, ec, rfl, hDI, _⟩ := OwnInts.read hD7.out
            have DI7 : Hid (IntsAt w7.heap.size w7 eo (Dp.compG g (Dp.spotsG g []))) := hDI
            have HW7 : Hid (Below W.heap.size W w7) := HW6.out.trans (hb7.out.mono HW6.out.size)
            have SI7 : Hid (SpotsAt w7.heap.size w7 zo (Dp.spotsG g [])) := SI6.out.next hb7.out
            have HQ : Hid (∀ i (hi : i < (Dp.compG g (Dp.spotsG g [])).length), (Dp.compG g (Dp.spotsG g []))[i] = (i : Int)) := fun i hi => Dp.comp_all hg i hi
            have hdl : Hid ((Dp.compG g (Dp.spotsG g [])).length = cs.length) := by show _ = _; rw [Dp.compG_len hg, hcl.out]
            have hne : (((Dp.compG g (Dp.spotsG g [])).length : Int) != (cs.length : Int)) = false := by rw [hdl.out]; simp
            have hd40 : (Dp.compG g (Dp.spotsG g [])).length ≤ 40 := by rw [hdl.out]; exact hc40
            clear hD7 hDI HW6 hb7 SI6 g0 g1 g2 hgz
            obtain ⟨_, bq⟩ := HBG.out w7 HW7.out
            obtain ⟨g0, g1, g2, _⟩ := cells_three_z bq
            have hgz := (Array.getElem?_eq_some_iff.1 bq).1
            clear bq
            have HIN : Hid _ := dpinner_own g ⟨ta, tc, na, nc, ra, rc⟩ (Dp.spotsG g []) zo zc w7 HM.out (HG.out.next (HBG.out w7 HW7.out).1) SI7.out (by omega)
            have hin := Dp.inner_all g
            rw [hin] at HIN
            generalize Dp.compG g (Dp.spotsG g []) = ds at *
            generalize Dp.spotsG g [] = al at *
            go_wp2_with (go_at_call 25; fail)
            refine Calls.mono HIN.out ?_
            rintro e w8 ⟨v8, rfl, hI8, hb8⟩
            obtain ⟨jo, jc, rfl, _⟩ := OwnSpots.read hI8.out
            simp only [List.length_nil]
            have HW8 : Hid (Below W.heap.size W w8) := HW7.out.trans (hb8.out.mono HW7.out.size)
            have DI8 : Hid (IntsAt w8.heap.size w8 eo ds) := IntsAt.size (DI7.out.later hb8.out)
            clear hI8 HW7 DI7 hb8 SI7 HIN hin g0 g1 g2 hgz
            go_wp2_with fail
            clear hne
            go_loopw [9] (fun iv wr => ∃ i : Nat, i ≤ ds.length ∧ iv = .int .i64 i ∧ wr = w8) (fun iv _ => ds.length - (intOf iv).toNat)
            case atStart => exact ⟨0, Nat.zero_le _, rfl, rfl⟩
            case round =>
              obtain ⟨i, hi, rfl, rfl⟩ := hrel
              by_cases hil : i < ds.length
              · have hii : (i : Int) < (ds.length : Int) := by omega
                obtain ⟨xb, xof, rfl, _, _, x0⟩ := IntsAt.get DI8.out i hil
                rw [HQ.out i hil] at x0
                go_wp2_with fail
                go_roundw
                case rel => exact ⟨i + 1, by omega, by go_num, trivial⟩
                case measure => simp [intOf]; omega
              · obtain rfl : i = ds.length := by omega
                have hii : ¬ (ds.length : Int) < (ds.length : Int) := by omega
                have HB8 := (HBG.out _ HW8.out).1
                go_wp2_with (go_at_call 15; refine Calls.mono (dwakes_any _) ?_; rintro e w3 ⟨rfl, hb3⟩)
                go_ret
                exact ⟨rfl, HB8.trans (hb3.mono HB8.size)⟩
  · have HL1 : Hid (∀ _ : Unit, _) := fun _ => HLG.out true _ hbW.out hl
    clear HLG hl HGD
    go_enter Try.func6, Try.ntmps6
    go_wp2_with (go_at_call 8; fail)
    generalize (w.alloc (Obj.cells #[.slice ta g.terms.length tc, .slice na g.names.length nc, .slice ra g.rules.length rc] 25)) = W at *
    refine Calls.mono (HL1.out ()) ?_
    rintro e w1 ⟨rfl, hb1⟩
    obtain ⟨HB1, b1⟩ := HBG.out w1 hb1
    have HW1 : Hid (Below W.heap.size W w1) := hb1
    have HB1' : Hid (Below w.heap.size w w1) := HB1
    clear hb1 b1 HB1 HL1
    go_wp2_with (go_at_call 15; refine Calls.mono (dwakes_any _) ?_; rintro e w3 ⟨rfl, hb3⟩)
    go_ret
    exact ⟨rfl, HB1'.out.trans (hb3.mono HB1'.out.size)⟩
end Go.Proofs.Ytdocbgfpnaiijaa
