/-
  The law UsefulHolds, walked: it returns true, of every grammar and number.
-/
import Derived.Test.YtkcohemphaafkaaUsLaw
import Derived.Test.YtkcohemphaafkaaRuleLib
import Derived.Deep.DeepCutAuto
namespace Go.Proofs.Ytkcohemphaafkaa
open Go.RowKit Go.Conc

set_option maxRecDepth 100000 in
set_option maxHeartbeats 3200000 in
theorem usefulHolds_out (g : Gr.Gm) (A : GA) (n : Int) (w : World) (h : GmAt w.heap.size w g A) (hm : ∀ r ∈ g.rules, r.2.length ≤ maxLen) (hl : Gr.large g = true ∨ Gr.large g = false ∧ Gr.good g = false) :
    Calls Try.prog 4 #[.agg (gmCells g A), .int .u8 n] w fun e w' => e = .returned (.bool true) ∧ Below w.heap.size w w' := by
  obtain ⟨ta, tc, na, nc, ra, rc⟩ := A
  have hbW : Hid (Below w.heap.size w (w.alloc (Obj.cells #[.slice ta g.terms.length tc, .slice na g.names.length nc, .slice ra g.rules.length rc] 25))) := (Below.refl _ w).alloc (Nat.le_refl _) _
  have b0 : Hid ((w.alloc (Obj.cells #[.slice ta g.terms.length tc, .slice na g.names.length nc, .slice ra g.rules.length rc] 25)).heap[w.heap.size]? = some (.cells #[.slice ta g.terms.length tc, .slice na g.names.length nc, .slice ra g.rules.length rc] 25 (0, 0))) := heap_alloc_new w _
  have HLG : Hid (∀ (r : Bool) (W : World), Below w.heap.size w W → Gr.large g = r → Calls Try.prog 6 #[.agg (gmCells g ⟨ta, tc, na, nc, ra, rc⟩)] W fun e w' => e = .returned (.bool r) ∧ Below W.heap.size W w') := fun r W hW hl => large_is r g _ W hm (h.later hW).size hl
  have HGD : Hid (∀ (r : Bool) (W : World), Below w.heap.size w W → Gr.good g = r → Calls Try.prog 17 #[.agg (gmCells g ⟨ta, tc, na, nc, ra, rc⟩)] W fun e w' => e = .returned (.bool r) ∧ Below W.heap.size W w') := fun r W hW hr => refGood_any r g _ W hm (h.next hW) (by rw [Gr.refGood_is]; exact hr)
  simp only [gmCells] at HLG HGD ⊢
  clear h hm
  rcases hl with hl | ⟨hl, hg⟩
  · have HL1 : Hid (∀ _ : Unit, _) := fun _ => HLG.out true _ hbW.out hl
    clear HLG hl HGD
    go_enter Try.func4, Try.ntmps4
    go_wp2_with (first | (go_at_call 6; refine Calls.mono (HL1.out ()) ?_; rintro e w1 ⟨rfl, hb1⟩) | (go_at_call 7; refine Calls.mono (uwakes_any _) ?_; rintro e w3 ⟨rfl, hb3⟩))
    go_ret
    exact ⟨rfl, (hbW.out.trans (hb1.mono hbW.out.size)).trans (hb3.mono (hbW.out.trans (hb1.mono hbW.out.size)).size)⟩
  · have HL1 : Hid (∀ _ : Unit, _) := fun _ => HLG.out false _ hbW.out hl
    clear HLG hl
    have HG1 : Hid (∀ (W : World), Below w.heap.size w W → _) := fun W hW => HGD.out false W hW hg
    clear hg HGD
    go_enter Try.func4, Try.ntmps4
    go_wp2_with (go_at_call 6; fail)
    generalize (w.alloc (Obj.cells #[.slice ta g.terms.length tc, .slice na g.names.length nc, .slice ra g.rules.length rc] 25)) = W at *
    refine Calls.mono (HL1.out ()) ?_
    rintro e w1 ⟨rfl, hb1⟩
    have HB1 : Hid (Below w.heap.size w w1) := hbW.out.trans (hb1.mono hbW.out.size)
    obtain ⟨g0, g1, g2, _⟩ := cells_three_z ((hb1.block _ (Array.getElem?_eq_some_iff.1 b0.out).1).trans b0.out)
    clear hb1 b0 hbW HL1
    go_wp2_with (go_at_call 17; fail)
    refine Calls.mono (HG1.out _ HB1.out) ?_
    rintro e w2 ⟨rfl, hb2⟩
    have HB2 : Hid (Below w.heap.size w w2) := HB1.out.trans (hb2.mono HB1.out.size)
    clear g0 g1 g2 hb2 HB1 HG1
    go_wp2_with (go_at_call 7; refine Calls.mono (uwakes_any _) ?_; rintro e w3 ⟨rfl, hb3⟩)
    go_ret
    exact ⟨rfl, HB2.out.trans (hb3.mono HB2.out.size)⟩

/-- what holds of memory behind the four answers -/
structure UH (w wr : World) (g : Gr.Gm) (A : GA) (r p u s : Option Addr) (a : Int) : Prop where
  below : Below w.heap.size w wr
  gb : wr.heap[w.heap.size]? = some (.cells #[.slice A.ta g.terms.length A.tc, .slice A.na g.names.length A.nc, .slice A.ra g.rules.length A.rc] 25 (0, 0))
  r : BoolsAt wr.heap.size wr r (Us.reach g a)
  p : BoolsAt wr.heap.size wr p (Us.prod g)
  u : BoolsAt wr.heap.size wr u (Us.use g)
  s : BoolsAt wr.heap.size wr s (Us.reach g (g.terms.length : Int))
theorem UH.next {w wr w' : World} {g : Gr.Gm} {A : GA} {r p u s : Option Addr} {a : Int} (h : UH w wr g A r p u s a) (hb : Below wr.heap.size wr w') : UH w w' g A r p u s a :=
  ⟨h.below.trans (hb.mono h.below.size), (hb.block _ (Array.getElem?_eq_some_iff.1 h.gb).1).trans h.gb, h.r.next hb, h.p.next hb, h.u.next hb, h.s.next hb⟩
set_option maxRecDepth 100000 in
set_option maxHeartbeats 12800000 in
theorem usefulHolds_in (g : Gr.Gm) (A : GA) (n : Int) (w : World) (h : GmAt w.heap.size w g A) (hm : ∀ r ∈ g.rules, r.2.length ≤ maxLen) (hl : Gr.large g = false) (hg : Gr.good g = true) (hn : 0 ≤ n ∧ n < 256) :
    Calls Try.prog 4 #[.agg (gmCells g A), .int .u8 n] w fun e w' => e = .returned (.bool true) ∧ Below w.heap.size w w' := by
  obtain ⟨ta, tc, na, nc, ra, rc⟩ := A
  have HG : Hid (GmAt w.heap.size w g ⟨ta, tc, na, nc, ra, rc⟩) := h
  obtain ⟨hsz, h8⟩ := Nl.sizes_of hg
  have H8 : Hid _ := h8
  have HF : Hid (Nl.Fit g.terms.length (g.terms.length + g.names.length) g.rules) := Nl.fit_of hg
  have HGD0 : Hid (Gr.good g = true) := hg
  have hpl : (Us.prod g).length = g.terms.length + g.names.length := Us.prod_len hg
  have hul : (Us.use g).length = g.terms.length + g.names.length := Us.use_len hg
  have hrl : Hid (∀ a : Nat, a < g.terms.length + g.names.length → (Us.reach g (a : Int)).length = g.terms.length + g.names.length) := fun a ha => Us.reach_len hg ⟨by omega, by show (a : Int) < ((g.terms.length + g.names.length : Nat) : Int); omega⟩
  have hbW : Hid (Below w.heap.size w (w.alloc (Obj.cells #[.slice ta g.terms.length tc, .slice na g.names.length nc, .slice ra g.rules.length rc] 25))) := (Below.refl _ w).alloc (Nat.le_refl _) _
  have b0 : Hid ((w.alloc (Obj.cells #[.slice ta g.terms.length tc, .slice na g.names.length nc, .slice ra g.rules.length rc] 25)).heap[w.heap.size]? = some (.cells #[.slice ta g.terms.length tc, .slice na g.names.length nc, .slice ra g.rules.length rc] 25 (0, 0))) := heap_alloc_new w _
  have HL1 : Hid (∀ (W : World), Below w.heap.size w W → Calls Try.prog 6 #[.agg (gmCells g ⟨ta, tc, na, nc, ra, rc⟩)] W fun e w' => e = .returned (.bool false) ∧ Below W.heap.size W w') := fun W hW => large_is false g _ W hm (h.later hW).size hl
  have HGD : Hid (∀ (W : World), Below w.heap.size w W → Calls Try.prog 17 #[.agg (gmCells g ⟨ta, tc, na, nc, ra, rc⟩)] W fun e w' => e = .returned (.bool true) ∧ Below W.heap.size W w') := fun W hW => refGood_any true g _ W hm (h.next hW) (by rw [Gr.refGood_is]; exact hg)
  have HRE : Hid (∀ (a : Nat) (W : World), a < g.terms.length + g.names.length → Below w.heap.size w W → Calls Try.prog 10 #[.agg (gmCells g ⟨ta, tc, na, nc, ra, rc⟩), .int .i64 (a : Int)] W fun e w' => ∃ ao c, e = .returned (.slice ao (g.terms.length + g.names.length) c) ∧ Hid (BoolsAt w'.heap.size w' ao (Us.reach g (a : Int))) ∧ Hid (Below W.heap.size W w')) := fun a W ha hW => by
    have := ureach_is g _ (a : Int) W ⟨by omega, by omega⟩ hm (h.next hW)
    rw [hrl.out a ha] at this; exact this
  have HPR : Hid (∀ (W : World), Below w.heap.size w W → Calls Try.prog 12 #[.agg (gmCells g ⟨ta, tc, na, nc, ra, rc⟩)] W fun e w' => ∃ ao c, e = .returned (.slice ao (g.terms.length + g.names.length) c) ∧ Hid (BoolsAt w'.heap.size w' ao (Us.prod g)) ∧ Hid (Below W.heap.size W w')) := fun W hW => by
    have := uprod_is g _ W hm (h.next hW)
    rw [hpl] at this; exact this
  have HUS : Hid (∀ (W : World), Below w.heap.size w W → Calls Try.prog 14 #[.agg (gmCells g ⟨ta, tc, na, nc, ra, rc⟩)] W fun e w' => ∃ ao c, e = .returned (.slice ao (g.terms.length + g.names.length) c) ∧ Hid (BoolsAt w'.heap.size w' ao (Us.use g)) ∧ Hid (Below W.heap.size W w')) := fun W hW => by
    have := uuse_is g _ W hm (h.next hW)
    rw [hul] at this; exact this
  simp only [gmCells] at HL1 HGD HRE HPR HUS ⊢
  clear h hm h8 hg
  go_enter Try.func4, Try.ntmps4
  go_wp2_with (go_at_call 6; fail)
  generalize (w.alloc (Obj.cells #[.slice ta g.terms.length tc, .slice na g.names.length nc, .slice ra g.rules.length rc] 25)) = W at *
  refine Calls.mono (HL1.out _ hbW.out) ?_
  rintro e w1 ⟨rfl, hb1⟩
  have b1 : Hid _ := (hb1.block _ (Array.getElem?_eq_some_iff.1 b0.out).1).trans b0.out
  have HB1 : Hid (Below w.heap.size w w1) := hbW.out.trans (hb1.mono hbW.out.size)
  obtain ⟨g0, g1, g2, _⟩ := cells_three_z b1.out
  clear hb1 b0 hbW HL1
  go_wp2_with (go_at_call 17; fail)
  refine Calls.mono (HGD.out _ HB1.out) ?_
  rintro e w2 ⟨rfl, hb2⟩
  have b2 : Hid _ := (hb2.block _ (Array.getElem?_eq_some_iff.1 b1.out).1).trans b1.out
  have HB2 : Hid (Below w.heap.size w w2) := HB1.out.trans (hb2.mono HB1.out.size)
  clear g0 g1 g2 hb2 HB1 HGD b1
  obtain ⟨g0, g1, g2, _⟩ := cells_three_z b2.out
  obtain ⟨md, hmd, hmdl⟩ : ∃ md : Nat, n % ((g.terms.length : Int) + (g.names.length : Int)) = (md : Int) ∧ md < g.terms.length + g.names.length := ⟨(n % ((g.terms.length : Int) + (g.names.length : Int))).toNat, by have := Int.emod_nonneg n (b := (g.terms.length : Int) + (g.names.length : Int)) (by omega); omega, by have := Int.emod_lt_of_pos n (b := (g.terms.length : Int) + (g.names.length : Int)) (by omega); have := Int.emod_nonneg n (b := (g.terms.length : Int) + (g.names.length : Int)) (by omega); omega⟩
  have htm : n.tmod ((g.terms.length : Int) + (g.names.length : Int)) = (md : Int) := by rw [Int.tmod_eq_emod_of_nonneg hn.1]; exact hmd
  have hnz : ¬ (g.terms.length : Int) + (g.names.length : Int) = 0 := by omega
  have hwz : IntKind.wrap .i64 n = n := by rw [IntKind.wrap_i64]; omega
  have hwd : IntKind.wrap .i64 (md : Int) = (md : Int) := by rw [IntKind.wrap_i64]; omega
  go_upto_region 5 with fail
  have HC : Hid (∀ w1 : World, Lat w2.drew w1 → w1.cell? ⟨w.heap.size, 0, none⟩ = some (.slice ta g.terms.length tc) ∧ w1.cell? ⟨w.heap.size, 1, none⟩ = some (.slice na g.names.length nc) ∧ w1.cell? ⟨w.heap.size, 2, none⟩ = some (.slice ra g.rules.length rc)) := fun w1 hL => by
    have h := cells_three_z ((hL.of_drew.block _ (Array.getElem?_eq_some_iff.1 b2.out).1).trans b2.out)
    exact ⟨h.1, h.2.1, h.2.2.1⟩
  have HBL : Hid (∀ w1 : World, Lat w2.drew w1 → Below w.heap.size w w1) := fun w1 hL => HB2.out.trans (Below.mono hL.of_drew HB2.out.size)
  have hT : g.terms.length < g.terms.length + g.names.length := by omega
  clear g0 g1 g2 htm hnz hwz hwd hmd
  refine wp_region_lat [.val (.agg #[.slice ta g.terms.length tc, .slice na g.names.length nc, .slice ra g.rules.length rc]), .val (.int .i64 (md : Int)), .fact (fun v w' => ∃ ao c, v = .slice ao (g.terms.length + g.names.length) c ∧ BoolsAt w'.heap.size w' ao (Us.reach g (md : Int))), .val (.agg #[.slice ta g.terms.length tc, .slice na g.names.length nc, .slice ra g.rules.length rc]), .fact (fun v w' => ∃ ao c, v = .slice ao (g.terms.length + g.names.length) c ∧ BoolsAt w'.heap.size w' ao (Us.prod g)), .val (.agg #[.slice ta g.terms.length tc, .slice na g.names.length nc, .slice ra g.rules.length rc]), .fact (fun v w' => ∃ ao c, v = .slice ao (g.terms.length + g.names.length) c ∧ BoolsAt w'.heap.size w' ao (Us.use g)), .val (.agg #[.slice ta g.terms.length tc, .slice na g.names.length nc, .slice ra g.rules.length rc]), .val (.pointer (some ⟨w.heap.size, 0, none⟩)), .val (.slice ta g.terms.length tc), .val (.int .i64 (g.terms.length : Int)), .fact (fun v w' => ∃ ao c, v = .slice ao (g.terms.length + g.names.length) c ∧ BoolsAt w'.heap.size w' ao (Us.reach g (g.terms.length : Int)))] [_, _, _, _] (by kernel_rfl) (by kernel_rfl) rfl ?kept ?walk
  case kept => exact ⟨fun v w1 w2 hL ⟨bo, bc, e, h1⟩ => ⟨bo, bc, e, h1.next hL⟩, fun v w1 w2 hL ⟨bo, bc, e, h1⟩ => ⟨bo, bc, e, h1.next hL⟩, fun v w1 w2 hL ⟨bo, bc, e, h1⟩ => ⟨bo, bc, e, h1.next hL⟩, fun v w1 w2 hL ⟨bo, bc, e, h1⟩ => ⟨bo, bc, e, h1.next hL⟩, trivial⟩
  case walk =>
    refine wpFacts_val (by rfl) (fun w1 hL hd K hK => ?_) ?_
    · obtain ⟨d0, d1, d2⟩ := HC.out w1 hL
      go_simp
      exact hK _ (Lat.refl _)
    refine wpFacts_norm (by simp only [Act.put, List.setIfInBounds_toArray, List.set_cons_zero, List.set_cons_succ]; rfl) (by simp only [List.nil_append]; rfl) ?_
    refine wpFacts_val (by rfl) (fun w1 hL hd K hK => ?_) ?_
    · go_simp
      exact hK _ (Lat.refl _)
    refine wpFacts_norm (by simp only [Act.put, List.setIfInBounds_toArray, List.set_cons_zero, List.set_cons_succ]; rfl) (by simp only [List.cons_append, List.nil_append]; rfl) ?_
    refine wpFacts_fact (by rfl) (fun w1 hL hd K hK => ?_) (fun v2 => ?_)
    · go_simp
      refine Calls.mono (HRE.out md w1 hmdl (HBL.out w1 hL)) ?_
      rintro e w9 ⟨bo, bc, rfl, hb8, hb9⟩
      exact hK _ _ hb9.out ⟨bo, bc, rfl, hb8.out⟩
    refine wpFacts_norm (by simp only [Act.put, List.setIfInBounds_toArray, List.set_cons_zero, List.set_cons_succ]; rfl) (by simp only [List.cons_append, List.nil_append]; rfl) ?_
    refine wpFacts_val (by rfl) (fun w1 hL hd K hK => ?_) ?_
    · obtain ⟨d0, d1, d2⟩ := HC.out w1 hL
      go_simp
      exact hK _ (Lat.refl _)
    refine wpFacts_norm (by simp only [Act.put, List.setIfInBounds_toArray, List.set_cons_zero, List.set_cons_succ]; rfl) (by simp only [List.cons_append, List.nil_append]; rfl) ?_
    refine wpFacts_fact (by rfl) (fun w1 hL hd K hK => ?_) (fun v4 => ?_)
    · go_simp
      refine Calls.mono (HPR.out w1 (HBL.out w1 hL)) ?_
      rintro e w9 ⟨bo, bc, rfl, hb8, hb9⟩
      exact hK _ _ hb9.out ⟨bo, bc, rfl, hb8.out⟩
    refine wpFacts_norm (by simp only [Act.put, List.setIfInBounds_toArray, List.set_cons_zero, List.set_cons_succ]; rfl) (by simp only [List.cons_append, List.nil_append]; rfl) ?_
    refine wpFacts_val (by rfl) (fun w1 hL hd K hK => ?_) ?_
    · obtain ⟨d0, d1, d2⟩ := HC.out w1 hL
      go_simp
      exact hK _ (Lat.refl _)
    refine wpFacts_norm (by simp only [Act.put, List.setIfInBounds_toArray, List.set_cons_zero, List.set_cons_succ]; rfl) (by simp only [List.cons_append, List.nil_append]; rfl) ?_
    refine wpFacts_fact (by rfl) (fun w1 hL hd K hK => ?_) (fun v6 => ?_)
    · go_simp
      refine Calls.mono (HUS.out w1 (HBL.out w1 hL)) ?_
      rintro e w9 ⟨bo, bc, rfl, hb8, hb9⟩
      exact hK _ _ hb9.out ⟨bo, bc, rfl, hb8.out⟩
    refine wpFacts_norm (by simp only [Act.put, List.setIfInBounds_toArray, List.set_cons_zero, List.set_cons_succ]; rfl) (by simp only [List.cons_append, List.nil_append]; rfl) ?_
    refine wpFacts_val (by rfl) (fun w1 hL hd K hK => ?_) ?_
    · obtain ⟨d0, d1, d2⟩ := HC.out w1 hL
      go_simp
      exact hK _ (Lat.refl _)
    refine wpFacts_norm (by simp only [Act.put, List.setIfInBounds_toArray, List.set_cons_zero, List.set_cons_succ]; rfl) (by simp only [List.cons_append, List.nil_append]; rfl) ?_
    refine wpFacts_val (by rfl) (fun w1 hL hd K hK => ?_) ?_
    · go_simp
      exact hK _ (Lat.refl _)
    refine wpFacts_norm (by simp only [Act.put, List.setIfInBounds_toArray, List.set_cons_zero, List.set_cons_succ]; rfl) (by simp only [List.cons_append, List.nil_append]; rfl) ?_
    refine wpFacts_val (by rfl) (fun w1 hL hd K hK => ?_) ?_
    · obtain ⟨d0, d1, d2⟩ := HC.out w1 hL
      go_simp
      exact hK _ (Lat.refl _)
    refine wpFacts_norm (by simp only [Act.put, List.setIfInBounds_toArray, List.set_cons_zero, List.set_cons_succ]; rfl) (by simp only [List.cons_append, List.nil_append]; rfl) ?_
    refine wpFacts_val (by rfl) (fun w1 hL hd K hK => ?_) ?_
    · go_simp
      exact hK _ (Lat.refl _)
    refine wpFacts_norm (by simp only [Act.put, List.setIfInBounds_toArray, List.set_cons_zero, List.set_cons_succ]; rfl) (by simp only [List.cons_append, List.nil_append]; rfl) ?_
    refine wpFacts_fact (by rfl) (fun w1 hL hd K hK => ?_) (fun v11 => ?_)
    · go_simp
      refine Calls.mono (HRE.out g.terms.length w1 hT (HBL.out w1 hL)) ?_
      rintro e w9 ⟨bo, bc, rfl, hb8, hb9⟩
      exact hK _ _ hb9.out ⟨bo, bc, rfl, hb8.out⟩
    refine wpFacts_norm (by simp only [Act.put, List.setIfInBounds_toArray, List.set_cons_zero, List.set_cons_succ]; rfl) (by simp only [List.cons_append, List.nil_append]; rfl) ?_
    intro w3 hL ha
    obtain ⟨xro, xrc, rfl, xrb⟩ : ∃ ao c, v2 = .slice ao (g.terms.length + g.names.length) c ∧ BoolsAt w3.heap.size w3 ao (Us.reach g (md : Int)) := allHold_get 2 ha rfl rfl
    obtain ⟨po, pc, rfl, pb⟩ : ∃ ao c, v4 = .slice ao (g.terms.length + g.names.length) c ∧ BoolsAt w3.heap.size w3 ao (Us.prod g) := allHold_get 4 ha rfl rfl
    obtain ⟨uo, uc, rfl, ub⟩ : ∃ ao c, v6 = .slice ao (g.terms.length + g.names.length) c ∧ BoolsAt w3.heap.size w3 ao (Us.use g) := allHold_get 6 ha rfl rfl
    obtain ⟨so, sc, rfl, sb⟩ : ∃ ao c, v11 = .slice ao (g.terms.length + g.names.length) c ∧ BoolsAt w3.heap.size w3 ao (Us.reach g (g.terms.length : Int)) := allHold_get 11 ha rfl rfl
    have U0 : Hid (UH w w3 g ⟨ta, tc, na, nc, ra, rc⟩ xro po uo so (md : Int)) := ⟨HBL.out w3 hL, (hL.of_drew.block _ (Array.getElem?_eq_some_iff.1 b2.out).1).trans b2.out, xrb, pb, ub, sb⟩
    clear ha hL HC HBL b2 HB2 xrb pb ub sb HPR HUS
    obtain ⟨fb, fo, hro, cr⟩ := U0.out.r.cellAt md (by rw [hrl.out md hmdl]; exact hmdl)
    subst hro
    rw [Us.self_reach HGD0.out ⟨by omega, by show (md : Int) < ((g.terms.length + g.names.length : Nat) : Int); omega⟩] at cr
    go_wp2_with fail
    clear cr
    go_loopw [11, 12, 13] (fun bv _ _ wr => ∃ b : Nat, b ≤ g.terms.length + g.names.length ∧ bv = .int .i64 b ∧ Hid (UH w wr g ⟨ta, tc, na, nc, ra, rc⟩ (some ⟨fb, fo, none⟩) po uo so (md : Int))) (fun bv _ _ _ => g.terms.length + g.names.length - (intOf bv).toNat)
    case atStart => exact ⟨0, Nat.zero_le _, rfl, U0⟩
    case round =>
      obtain ⟨b, hb, rfl, hU⟩ := hrel
      clear U0
      by_cases hbl : b < g.terms.length + g.names.length
      · have hbi : (b : Int) < (g.terms.length : Int) + (g.names.length : Int) := by omega
        obtain ⟨g0, g1, g2, _⟩ := cells_three_z hU.out.gb
        simp only at g0 g1 g2
        obtain ⟨_, _, e1, cr⟩ := hU.out.r.cellAt b (by rw [hrl.out md hmdl]; exact hbl)
        cases e1
        obtain ⟨pb, pf, e2, cp⟩ := hU.out.p.cellAt b (by omega)
        obtain ⟨ub, uf, e3, cu⟩ := hU.out.u.cellAt b (by omega)
        obtain ⟨sb, sf, e4, cs⟩ := hU.out.s.cellAt b (by rw [hrl.out _ hT]; exact hbl)
        subst e2
        subst e3
        subst e4
        have k1 : Nl.isAt (Us.use g) (b : Int) = true → Nl.isAt (Us.reach g (g.terms.length : Int)) (b : Int) = true := Us.use_reach HGD0.out
        have k2 : Nl.isAt (Us.use g) (b : Int) = true → Nl.isAt (Us.prod g) (b : Int) = true := Us.use_prod HGD0.out
        have k3 : b < g.terms.length → Nl.isAt (Us.prod g) (b : Int) = true := fun q => Us.terms_prod HGD0.out ⟨by omega, by omega⟩
        have k4 : Hid (Nl.isAt (Us.reach g (md : Int)) (b : Int) = true → ∀ c : Nat, Nl.isAt (Us.reach g (b : Int)) (c : Int) = true → Nl.isAt (Us.reach g (md : Int)) (c : Int) = true) := fun q c q2 => Us.trans_reach HGD0.out ⟨by omega, by show (md : Int) < ((g.terms.length + g.names.length : Nat) : Int); omega⟩ q q2
        go_upto_region 11 with fail
        go_cut [115] (fun v wc => v = .bool false ∧ wr = wc)
        case first =>
          generalize Nl.isAt (Us.use g) (b : Int) = xu at *
          generalize Nl.isAt (Us.prod g) (b : Int) = xp at *
          generalize Nl.isAt (Us.reach g (g.terms.length : Int)) (b : Int) = xs at *
          by_cases hbT : b < g.terms.length
          · have hbTi : (b : Int) < (g.terms.length : Int) := by omega
            have e := k3 hbT
            subst e
            cases xu
            · clear k1 k2 k3 k4
              go_wp2_with fail
              go_meet
              case rel => exact ⟨rfl, rfl⟩
            · have e := k1 rfl
              subst e
              clear k1 k2 k3 k4
              go_wp2_with fail
              go_meet
              case rel => exact ⟨rfl, rfl⟩
          · have hbTi : ¬ (b : Int) < (g.terms.length : Int) := by omega
            cases xu
            · clear k1 k2 k3 k4
              go_wp2_with fail
              go_meet
              case rel => exact ⟨rfl, rfl⟩
            · have e := k1 rfl
              subst e
              have e := k2 rfl
              subst e
              clear k1 k2 k3 k4
              go_wp2_with fail
              go_meet
              case rel => exact ⟨rfl, rfl⟩
        case rest =>
          obtain ⟨rfl, rfl⟩ := hcut
          clear cp cu cs k1 k2 k3
          cases hx : Nl.isAt (Us.reach g (md : Int)) (b : Int)
          · rw [hx] at cr
            clear k4 hx
            go_wp2_with fail
            go_roundw
            case rel => exact ⟨b + 1, by omega, by go_num, hU⟩
            case measure => simp [intOf]; omega
          · rw [hx] at cr
            have K4 : Hid _ := k4.out hx
            have HR1 : Hid _ := HRE.out b wr hbl hU.out.below
            clear k4 hx
            go_wp2_with (go_at_call 10; fail)
            refine Calls.mono HR1.out ?_
            rintro e w5 ⟨qo, qc, rfl, hq5, hb5⟩
            have hU5 : Hid (UH w w5 g ⟨ta, tc, na, nc, ra, rc⟩ (some ⟨fb, fo, none⟩) (some ⟨pb, pf, none⟩) (some ⟨ub, uf, none⟩) (some ⟨sb, sf, none⟩) (md : Int)) := hU.out.next hb5.out
            clear HR1 hU g0 g1 g2 cr hb5
            go_wp2_with fail
            go_loop [13] (fun cv => ∃ c : Nat, c ≤ g.terms.length + g.names.length ∧ cv = .int .i64 c) (fun cv => g.terms.length + g.names.length - (intOf cv).toNat)
            case atStart => exact ⟨0, Nat.zero_le _, rfl⟩
            case round =>
              obtain ⟨c, hc, rfl⟩ := hrel
              by_cases hcl : c < g.terms.length + g.names.length
              · have hci : (c : Int) < (g.terms.length : Int) + (g.names.length : Int) := by omega
                obtain ⟨qb, qf, e1, cq⟩ := hq5.out.cellAt c (by rw [hrl.out b hbl]; exact hcl)
                obtain ⟨_, _, e2, cr⟩ := hU5.out.r.cellAt c (by rw [hrl.out md hmdl]; exact hcl)
                subst e1
                cases e2
                cases hy : Nl.isAt (Us.reach g (b : Int)) (c : Int)
                · rw [hy] at cq
                  clear hy
                  go_wp2_with fail
                  go_round
                  case rel => exact ⟨c + 1, by omega, by go_num⟩
                  case measure => simp [intOf]; omega
                · rw [K4.out c hy] at cr
                  rw [hy] at cq
                  clear hy
                  go_wp2_with fail
                  go_round
                  case rel => exact ⟨c + 1, by omega, by go_num⟩
                  case measure => simp [intOf]; omega
              · have hci : ¬ (c : Int) < (g.terms.length : Int) + (g.names.length : Int) := by omega
                go_wp2_with fail
                go_roundw
                case rel => exact ⟨b + 1, by omega, by go_num, hU5⟩
                case measure => simp [intOf]; omega
      · have hbi : ¬ (b : Int) < (g.terms.length : Int) + (g.names.length : Int) := by omega
        obtain ⟨g0, g1, g2, _⟩ := cells_three_z hU.out.gb
        simp only at g0 g1 g2
        clear HRE
        go_wp2_with fail
        go_loop [14, 15, 16, 17, 18] (fun bv _ _ _ _ => ∃ s : Nat, g.terms.length ≤ s ∧ s ≤ g.terms.length + g.names.length ∧ bv = .int .i64 s) (fun bv _ _ _ _ => g.terms.length + g.names.length - (intOf bv).toNat)
        case atStart => exact ⟨g.terms.length, Nat.le_refl _, by omega, rfl⟩
        case round =>
          obtain ⟨s, hs0, hs, rfl⟩ := hrel
          by_cases hsl : s < g.terms.length + g.names.length
          · have hsi : (s : Int) < (g.terms.length : Int) + (g.names.length : Int) := by omega
            have P0 : Hid ((g.rules.take 0).any (fun r => decide (r.1 = (s : Int)) && Nl.allIn (Us.prod g) r.2) = false) := rfl
            go_upto_region 27 with fail
            go_loop [15, 16, 17, 18] (fun sv iv _ _ => ∃ (b0 : Bool) (q : Nat), q ≤ g.rules.length ∧ sv = .bool b0 ∧ iv = .int .i64 q ∧ Hid ((g.rules.take q).any (fun r => decide (r.1 = (s : Int)) && Nl.allIn (Us.prod g) r.2) = b0)) (fun _ iv _ _ => g.rules.length - (intOf iv).toNat)
            case atStart => exact ⟨false, 0, Nat.zero_le _, rfl, rfl, P0⟩
            case round =>
              obtain ⟨b0, q, hq, rfl, rfl, hE⟩ := hrel
              clear P0
              by_cases hql : q < g.rules.length
              · have hqi : (q : Int) < (g.rules.length : Int) := by omega
                obtain ⟨rb, ro1, yo, yc, hra, _, _, y0, y1, yI, _⟩ := HG.out.rules q hql
                simp only at hra
                subst hra
                have hET := any_take (fun r => decide (r.1 = (s : Int)) && Nl.allIn (Us.prod g) r.2) g.rules q hql
                rw [hE.out] at hET
                have hmm : g.rules[q] ∈ g.rules := List.getElem_mem hql
                have h8q := H8.out _ hmm
                have HRF : Hid _ := HF.out.right _ hmm
                have HY : Hid (IntsAt w.heap.size w yo g.rules[q].2) := yI
                clear yI hmm
                generalize g.rules[q] = y at *
                obtain ⟨yl, yr⟩ := y
                simp only at y0 y1 hET HY HRF h8q
                replace y0 := cell_later hU.out.below y0
                replace y1 := cell_later hU.out.below y1
                have HYR : Hid (IntsAt w.heap.size wr yo yr) := HY.out.later hU.out.below
                obtain ⟨db, hdb⟩ : ∃ db : Bool, (yl == (s : Int)) = db := ⟨_, rfl⟩
                have hdb2 : decide (yl = (s : Int)) = db := by rw [← hdb]; rfl
                have E0 : Hid ((db && Nl.allIn (Us.prod g) yr) = (db && Nl.allIn (Us.prod g) (yr.drop 0))) := by show _ = _; rw [List.drop_zero]
                rw [hdb2] at hET
                have HET : Hid _ := hET
                clear hE HY hdb2 hET
                go_upto_region 31 with fail
                clear hdb
                go_loop [17, 18] (fun av kv => ∃ (z : Nat) (ab : Bool), z ≤ yr.length ∧ kv = .int .i64 z ∧ av = .bool ab ∧ Hid ((db && Nl.allIn (Us.prod g) yr) = (ab && Nl.allIn (Us.prod g) (yr.drop z)))) (fun _ kv => yr.length - (intOf kv).toNat)
                case atStart => exact ⟨0, db, Nat.zero_le _, rfl, rfl, E0⟩
                case round =>
                  obtain ⟨z, ab, hz, rfl, rfl, hE⟩ := hrel
                  clear E0
                  by_cases hzl : z < yr.length
                  · have hzi : (z : Int) < (yr.length : Int) := by omega
                    have hE2 := hE.out
                    rw [allIn_drop _ yr z hzl] at hE2
                    cases ab
                    · have N2 : Hid ((db && Nl.allIn (Us.prod g) yr) = (false && Nl.allIn (Us.prod g) (yr.drop (z + 1)))) := by show _ = _; rw [hE2]; rfl
                      clear hE hE2
                      go_wp2_with fail
                      go_round
                      case rel => exact ⟨z + 1, false, by omega, by go_num, rfl, N2⟩
                      case measure => simp [intOf]; omega
                    · obtain ⟨zb, zo, hyo, _, _, kz⟩ := HYR.out.get z hzl
                      subst hyo
                      have hzr := HRF.out _ (List.getElem_mem hzl)
                      generalize yr[z] = x at *
                      obtain ⟨x, rfl⟩ : ∃ x' : Nat, x = x' := ⟨x.toNat, by omega⟩
                      obtain ⟨pb, pf, e2, cp⟩ := hU.out.p.cellAt x (by omega)
                      subst e2
                      have N2 : Hid ((db && Nl.allIn (Us.prod g) yr) = (Nl.isAt (Us.prod g) (x : Int) && Nl.allIn (Us.prod g) (yr.drop (z + 1)))) := by show _ = _; rw [hE2, Bool.true_and]
                      clear hE hE2
                      generalize Nl.isAt (Us.prod g) (x : Int) = ob at *
                      go_wp2_with fail
                      go_round
                      case rel => exact ⟨z + 1, ob, by omega, by go_num, rfl, N2⟩
                      case measure => simp [intOf]; omega
                  · have hzi : ¬ (z : Int) < (yr.length : Int) := by omega
                    have hE2 := hE.out
                    rw [List.drop_of_length_le (by omega), show Nl.allIn (Us.prod g) [] = true from rfl, Bool.and_true] at hE2
                    have hN := HET.out
                    rw [hE2] at hN
                    have HN : Hid _ := hN
                    clear hE hE2 hN
                    cases b0
                    · rw [Bool.false_or] at HN
                      go_wp2_with fail
                      go_round
                      case rel => exact ⟨ab, q + 1, by omega, rfl, by go_num, HN⟩
                      case measure => simp [intOf]; omega
                    · rw [Bool.true_or] at HN
                      go_wp2_with fail
                      go_round
                      case rel => exact ⟨true, q + 1, by omega, rfl, by go_num, HN⟩
                      case measure => simp [intOf]; omega
              · have hqi : ¬ (q : Int) < (g.rules.length : Int) := by omega
                have hE2 := hE.out
                rw [List.take_of_length_le (by omega), ← Us.prod_iff HGD0.out (by omega)] at hE2
                obtain ⟨pb, pf, e2, cp⟩ := hU.out.p.cellAt s (by omega)
                subst e2
                rw [hE2] at cp
                have hbb : (b0 != b0) = false := by cases b0 <;> rfl
                clear hE hE2
                go_wp2_with fail
                go_round
                case rel => exact ⟨s + 1, by omega, by omega, by go_num⟩
                case measure => simp [intOf]; omega
          · have hsi : ¬ (s : Int) < (g.terms.length : Int) + (g.names.length : Int) := by omega
            have HBF : Hid _ := hU.out.below
            clear hU g0 g1 g2
            go_wp2_with (go_at_call 7; refine Calls.mono (uwakes_any _) ?_; rintro e w9 ⟨rfl, hb9⟩)
            go_ret
            exact ⟨rfl, HBF.out.trans (hb9.mono HBF.out.size)⟩

theorem usefulHolds_walk (g : Gr.Gm) (A : GA) (n : Int) (w : World) (h : GmAt w.heap.size w g A) (hr : ∀ r ∈ g.rules, r.2.length ≤ maxLen ∧ rlWf r) (hn : (Lit.int .u8 n).wf = true) :
    Calls Try.prog 4 #[.agg (gmCells g A), .int .u8 n] w fun e w' => e = .returned (.bool true) ∧ Below w.heap.size w w' := by
  have hm : ∀ r ∈ g.rules, r.2.length ≤ maxLen := fun r h => (hr r h).1
  have hn8 : 0 ≤ n ∧ n < 256 := u8_lt hn
  cases hl : Gr.large g
  · cases hg : Gr.good g
    · exact usefulHolds_out g A n w h hm (.inr ⟨hl, hg⟩)
    · exact usefulHolds_in g A n w h hm hl hg hn8
  · exact usefulHolds_out g A n w h hm (.inl hl)
end Go.Proofs.Ytkcohemphaafkaa
