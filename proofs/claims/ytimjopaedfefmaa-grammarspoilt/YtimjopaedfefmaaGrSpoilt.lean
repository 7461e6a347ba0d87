/-
  The law GrammarSpoilt, walked: it returns true, of every grammar and number.
-/
import Derived.Test.YtimjopaedfefmaaGrSpoiltA
import Derived.Deep.DeepCutAuto
namespace Go.Proofs.Ytimjopaedfefmaa
open Go.RowKit

set_option maxRecDepth 100000 in
set_option maxHeartbeats 6400000 in
theorem grammarSpoilt_out (g : Gr.Gm) (A : GA) (n : Int) (w : World) (h : GmAt w.heap.size w g A) (hm : ∀ r ∈ g.rules, r.2.length ≤ maxLen) (ho : Gr.large g = true ∨ (Gr.large g = false ∧ Gr.good g = false) ∨ (Gr.large g = false ∧ Gr.good g = true ∧ 60 ≤ g.rules.length)) :
    Calls Try.prog 4 #[.agg (gmCells g A), .int .u8 n] w fun e w' => e = .returned (.bool true) ∧ Below w.heap.size w w' := by
  obtain ⟨ta, tc, na, nc, ra, rc⟩ := A
  have HG : Hid (GmAt w.heap.size w g ⟨ta, tc, na, nc, ra, rc⟩) := h
  have hbW : Hid (Below w.heap.size w (w.alloc (Obj.cells #[.slice ta g.terms.length tc, .slice na g.names.length nc, .slice ra g.rules.length rc] 26))) := (Below.refl _ w).alloc (Nat.le_refl _) _
  have b0 : Hid ((w.alloc (Obj.cells #[.slice ta g.terms.length tc, .slice na g.names.length nc, .slice ra g.rules.length rc] 26)).heap[w.heap.size]? = some (.cells #[.slice ta g.terms.length tc, .slice na g.names.length nc, .slice ra g.rules.length rc] 26 (0, 0))) := heap_alloc_new w _
  have hWs : Hid ((w.alloc (Obj.cells #[.slice ta g.terms.length tc, .slice na g.names.length nc, .slice ra g.rules.length rc] 26)).heap.size = w.heap.size + 1) := by show _ = _; simp
  have HLG : Hid (∀ (r : Bool) (W : World), Below w.heap.size w W → Gr.large g = r → Calls Try.prog 14 #[.agg (gmCells g ⟨ta, tc, na, nc, ra, rc⟩)] W fun e w' => e = .returned (.bool r) ∧ Below W.heap.size W w') := fun r W hW hl => large_is r g _ W hm (h.later hW).size hl
  have HGD : Hid (∀ (r : Bool) (W : World), Below w.heap.size w W → Gr.good g = r → Calls Try.prog 12 #[.agg (gmCells g ⟨ta, tc, na, nc, ra, rc⟩)] W fun e w' => e = .returned (.bool r) ∧ Below W.heap.size W w') := fun r W hW hl => good_is r g _ W hm (h.later hW).size hl
  simp only [gmCells] at HLG HGD ⊢
  clear h hm
  rcases ho with hl | ⟨hl, hg⟩ | ⟨hl, hg, h60⟩
  · have HL1 : Hid (∀ (W : World), Below w.heap.size w W → _) := fun W hW => HLG.out true W hW hl
    clear hl HLG HGD
    go_enter Try.func4, Try.ntmps4
    go_wp2_with fail
    generalize (w.alloc (Obj.cells #[.slice ta g.terms.length tc, .slice na g.names.length nc, .slice ra g.rules.length rc] 26)) = W at *
    refine (HL1.out _ hbW.out).mono ?_
    rintro e w1 ⟨rfl, hb1⟩
    have HB1 : Hid (Below w.heap.size w w1) := hbW.out.trans (hb1.mono hbW.out.size)
    go_wp2_with (first | (go_at_call 9; refine (gwakes_any _).mono ?_; rintro e w3 ⟨rfl, hb3⟩))
    go_ret
    exact ⟨rfl, HB1.out.trans (hb3.mono HB1.out.size)⟩
  · have HL1 : Hid (∀ (W : World), Below w.heap.size w W → _) := fun W hW => HLG.out false W hW hl
    have HG1 : Hid (∀ (W : World), Below w.heap.size w W → _) := fun W hW => HGD.out false W hW hg
    clear hl hg HLG HGD
    go_enter Try.func4, Try.ntmps4
    go_wp2_with fail
    generalize (w.alloc (Obj.cells #[.slice ta g.terms.length tc, .slice na g.names.length nc, .slice ra g.rules.length rc] 26)) = W at *
    refine (HL1.out _ hbW.out).mono ?_
    rintro e w1 ⟨rfl, hb1⟩
    obtain ⟨g0, g1, g2, _⟩ := cells_three_z ((hb1.block _ (by rw [hWs.out]; omega)).trans b0.out)
    have HB1 : Hid (Below w.heap.size w w1) := hbW.out.trans (hb1.mono hbW.out.size)
    go_wp2_with (go_at_call 12; fail)
    refine (HG1.out _ HB1.out).mono ?_
    rintro e w2 ⟨rfl, hb2⟩
    have HB2 : Hid (Below w.heap.size w w2) := HB1.out.trans (hb2.mono HB1.out.size)
    go_wp2_with (first | (go_at_call 9; refine (gwakes_any _).mono ?_; rintro e w3 ⟨rfl, hb3⟩))
    go_ret
    exact ⟨rfl, HB2.out.trans (hb3.mono HB2.out.size)⟩
  · have HL1 : Hid (∀ (W : World), Below w.heap.size w W → _) := fun W hW => HLG.out false W hW hl
    have HG1 : Hid (∀ (W : World), Below w.heap.size w W → _) := fun W hW => HGD.out true W hW hg
    have h60i : (60 : Int) ≤ (g.rules.length : Int) := by omega
    clear hl hg HLG HGD
    go_enter Try.func4, Try.ntmps4
    go_wp2_with fail
    generalize (w.alloc (Obj.cells #[.slice ta g.terms.length tc, .slice na g.names.length nc, .slice ra g.rules.length rc] 26)) = W at *
    refine (HL1.out _ hbW.out).mono ?_
    rintro e w1 ⟨rfl, hb1⟩
    obtain ⟨g0, g1, g2, _⟩ := cells_three_z ((hb1.block _ (by rw [hWs.out]; omega)).trans b0.out)
    have HB1 : Hid (Below w.heap.size w w1) := hbW.out.trans (hb1.mono hbW.out.size)
    have hb1s := hb1.size
    rw [hWs.out] at hb1s
    go_wp2_with (go_at_call 12; fail)
    refine (HG1.out _ HB1.out).mono ?_
    rintro e w2 ⟨rfl, hb2⟩
    have HB2 : Hid (Below w.heap.size w w2) := HB1.out.trans (hb2.mono HB1.out.size)
    replace g2 := cell_later hb2 g2
    clear g0 g1
    go_wp2_with (first | (go_at_call 9; refine (gwakes_any _).mono ?_; rintro e w3 ⟨rfl, hb3⟩))
    go_ret
    exact ⟨rfl, HB2.out.trans (hb3.mono HB2.out.size)⟩

set_option maxRecDepth 100000 in
set_option maxHeartbeats 6400000 in
theorem grammarSpoilt_in (g : Gr.Gm) (A : GA) (n : Int) (w : World) (h : GmAt w.heap.size w g A) (hn0 : 0 ≤ n) (hn1 : n < 256) (hl : Gr.large g = false) (hg : Gr.good g = true) (h60 : g.rules.length < 60) (h1r : 0 < g.rules.length) (h1n : 0 < g.names.length) (h8 : ∀ r ∈ g.rules, r.2.length ≤ 8) (ht40 : g.terms.length ≤ 40) (hn40 : g.names.length ≤ 40) (hpos : ∀ r ∈ g.rules, ∀ s ∈ r.2, 0 ≤ s) :
    Calls Try.prog 4 #[.agg (gmCells g A), .int .u8 n] w fun e w' => e = .returned (.bool true) ∧ Below w.heap.size w w' := by
  obtain ⟨ta, tc, na, nc, ra, rc⟩ := A
  have HG : Hid (GmAt w.heap.size w g ⟨ta, tc, na, nc, ra, rc⟩) := h
  have H8 : Hid (∀ r ∈ g.rules, r.2.length ≤ 8) := h8
  have HPOS : Hid (∀ r ∈ g.rules, ∀ s ∈ r.2, 0 ≤ s) := hpos
  have HGOOD : Hid (Gr.good g = true) := hg
  have HMORE : Hid (Gr.good ⟨g.terms, g.names ++ [⟨#[122, 122, 57]⟩], g.rules⟩ = false) := by
    obtain ⟨gt, gn, gr⟩ := g
    exact Gr.good_more _ hg
  have hm : ∀ r ∈ g.rules, r.2.length ≤ maxLen := fun r hr => by have := h8 r hr; unfold maxLen; omega
  have hbW : Hid (Below w.heap.size w (w.alloc (Obj.cells #[.slice ta g.terms.length tc, .slice na g.names.length nc, .slice ra g.rules.length rc] 26))) := (Below.refl _ w).alloc (Nat.le_refl _) _
  have b0 : Hid ((w.alloc (Obj.cells #[.slice ta g.terms.length tc, .slice na g.names.length nc, .slice ra g.rules.length rc] 26)).heap[w.heap.size]? = some (.cells #[.slice ta g.terms.length tc, .slice na g.names.length nc, .slice ra g.rules.length rc] 26 (0, 0))) := heap_alloc_new w _
  have hWs : Hid ((w.alloc (Obj.cells #[.slice ta g.terms.length tc, .slice na g.names.length nc, .slice ra g.rules.length rc] 26)).heap.size = w.heap.size + 1) := by show _ = _; simp
  have HL1 : Hid (∀ (W : World), Below w.heap.size w W → Calls Try.prog 14 #[.agg (gmCells g ⟨ta, tc, na, nc, ra, rc⟩)] W fun e w' => e = .returned (.bool false) ∧ Below W.heap.size W w') := fun W hW => large_is false g _ W hm (h.later hW).size hl
  have HG1 : Hid (∀ (W : World), Below w.heap.size w W → Calls Try.prog 12 #[.agg (gmCells g ⟨ta, tc, na, nc, ra, rc⟩)] W fun e w' => e = .returned (.bool true) ∧ Below W.heap.size W w') := fun W hW => good_is true g _ W hm (h.later hW).size hg
  have HOW : Hid (∀ (W : World), Below w.heap.size w W → Calls Try.prog 15 #[.agg (gmCells g ⟨ta, tc, na, nc, ra, rc⟩)] W fun e w' => ∃ A', e = .returned (.agg (gmCells g A')) ∧ Hid (GmOwn W.heap.size w' g A') ∧ Hid (Below W.heap.size W w') ∧ Hid (0 < g.names.length → (Value.slice A'.na g.names.length A'.nc).ownBlock ≠ (Value.slice A'.ta g.terms.length A'.tc).ownBlock)) := fun W hW => own_is g _ W (by omega) (by omega) (by omega) (fun r hr => by have := h8 r hr; omega) (h.later hW).size
  simp only [gmCells] at HL1 HG1 HOW ⊢
  clear h hm h8 hl hg hpos
  have h60i : decide ((60 : Int) ≤ (g.rules.length : Int)) = false := decide_eq_false (by omega)
  go_enter Try.func4, Try.ntmps4
  go_wp2_with fail
  generalize (w.alloc (Obj.cells #[.slice ta g.terms.length tc, .slice na g.names.length nc, .slice ra g.rules.length rc] 26)) = W at *
  refine (HL1.out _ hbW.out).mono ?_
  rintro e w1 ⟨rfl, hb1⟩
  obtain ⟨g0, g1, g2, _⟩ := cells_three_z ((hb1.block _ (by rw [hWs.out]; omega)).trans b0.out)
  have HB1 : Hid (Below w.heap.size w w1) := hbW.out.trans (hb1.mono hbW.out.size)
  go_wp2_with (go_at_call 12; fail)
  refine (HG1.out _ HB1.out).mono ?_
  rintro e w2 ⟨rfl, hb2⟩
  have HB2 : Hid (Below W.heap.size W w2) := hb1.trans (hb2.mono hb1.size)
  replace g0 := cell_later hb2 g0
  replace g1 := cell_later hb2 g1
  replace g2 := cell_later hb2 g2
  have HBw2 : Hid (Below w.heap.size w w2) := hbW.out.trans (HB2.out.mono hbW.out.size)
  clear hb1 hb2 HB1 HL1 HG1
  go_wp2_with (go_at_call 15; fail)
  refine (HOW.out _ HBw2.out).mono ?_
  rintro e w3 ⟨⟨ta1, tc1, na1, nc1, ra1, rc1⟩, rfl, ho3, hb3, _⟩
  go_wp2_with fail
  have hbA : Hid (Below w3.heap.size w3 (w3.alloc (Obj.cells #[.slice ta1 g.terms.length tc1, .slice na1 g.names.length nc1, .slice ra1 g.rules.length rc1] 26))) := (Below.refl _ w3).alloc (Nat.le_refl _) _
  have b5 : Hid ((w3.alloc (Obj.cells #[.slice ta1 g.terms.length tc1, .slice na1 g.names.length nc1, .slice ra1 g.rules.length rc1] 26)).heap[w3.heap.size]? = some (.cells #[.slice ta1 g.terms.length tc1, .slice na1 g.names.length nc1, .slice ra1 g.rules.length rc1] 26 (0, 0))) := heap_alloc_new w3 _
  have hV : Hid (w3.heap.size < (w3.alloc (Obj.cells #[.slice ta1 g.terms.length tc1, .slice na1 g.names.length nc1, .slice ra1 g.rules.length rc1] 26)).heap.size) := by show _ < _; simp
  have HO4 : Hid (GmOwn w2.heap.size (w3.alloc (Obj.cells #[.slice ta1 g.terms.length tc1, .slice na1 g.names.length nc1, .slice ra1 g.rules.length rc1] 26)) g ⟨ta1, tc1, na1, nc1, ra1, rc1⟩) := ho3.out.below hbA.out
  have HB4 : Hid (Below w2.heap.size w2 (w3.alloc (Obj.cells #[.slice ta1 g.terms.length tc1, .slice na1 g.names.length nc1, .slice ra1 g.rules.length rc1] 26))) := hb3.out.trans (hbA.out.mono hb3.out.size)
  clear hbA ho3
  have hX5 : w2.heap.size ≤ w3.heap.size := hb3.out.size
  generalize (w3.alloc (Obj.cells #[.slice ta1 g.terms.length tc1, .slice na1 g.names.length nc1, .slice ra1 g.rules.length rc1] 26)) = V at *
  generalize w3.heap.size = X5 at *
  clear hb3
  obtain ⟨q, hqe, hql⟩ : ∃ q : Nat, n % (g.rules.length : Int) = (q : Int) ∧ q < g.rules.length := ⟨(n % (g.rules.length : Int)).toNat, by have := Int.emod_nonneg n (b := (g.rules.length : Int)) (by omega); omega, by have := Int.emod_lt_of_pos n (b := (g.rules.length : Int)) (by omega); have := Int.emod_nonneg n (b := (g.rules.length : Int)) (by omega); omega⟩
  have hqi : (q : Int) < (g.rules.length : Int) := by omega
  have hwr : IntKind.i64.wrap n = n := IntWalk.i64_in (by omega) (by omega)
  have htm : n.tmod (g.rules.length : Int) = (q : Int) := by rw [Int.tmod_eq_emod_of_nonneg hn0]; exact hqe
  have hrn : ¬ g.rules = [] := fun e => by rw [e] at h1r; simp at h1r
  have hlen0 : ((g.rules.length : Int) == 0) = false := beq_eq_false_iff_ne.2 (by omega)
  obtain ⟨rb, ro, xo, xrc, hra, hrb, _, k0, k1, ki, hxrc⟩ := HG.out.rules q hql
  simp only at hra
  subst hra
  have KI : Hid (IntsAt w.heap.size w xo g.rules[q].2) := ki
  have HTW : Hid (Gr.good ⟨g.terms, g.names, g.rules ++ [g.rules[q]]⟩ = false) := Gr.good_twice _ _ _ _ (List.getElem_mem hql)
  have H8q : Hid (g.rules[q].2.length ≤ 8) := H8.out _ (List.getElem_mem hql)
  generalize g.rules[q] = y at *
  obtain ⟨yl, yr⟩ := y
  simp only at k0 k1 KI H8q hxrc
  have HK0 : Hid (w.cell? ⟨rb, ro + q * 2, none⟩ = some (.int .i64 yl) ∧ w.cell? ⟨rb, ro + q * 2 + 1, none⟩ = some (.slice xo yr.length xrc)) := ⟨k0, k1⟩
  have HS : Hid (∀ w5 : World, Lat V.drew w5 → Below w.heap.size w w5 ∧ V.heap.size ≤ w5.heap.size ∧ Below V.heap.size V w5) := fun w5 hL => by
    have h := hL.of_drew
    have h1 : Below w.heap.size w V := HBw2.out.trans (HB4.out.mono HBw2.out.size)
    exact ⟨h1.trans (Below.mono h h1.size), h.size, h⟩
  replace g0 := cell_later HB4.out g0
  replace g1 := cell_later HB4.out g1
  replace g2 := cell_later HB4.out g2
  obtain ⟨a0, a1, a2, _⟩ := cells_three_z b5.out
  clear ki k0 k1
  refine wp_region_lat [.val (.pointer (some ⟨X5, 2, none⟩)), .val (.slice ra1 g.rules.length rc1), .val (.pointer (some ⟨w.heap.size, 2, none⟩)), .val (.slice (some ⟨rb, ro, none⟩) g.rules.length rc), .val (.int .u8 n), .val (.int .i64 n), .val (.pointer (some ⟨w.heap.size, 2, none⟩)), .val (.slice (some ⟨rb, ro, none⟩) g.rules.length rc), .val (.int .i64 g.rules.length), .val (.int .i64 q), .val (.pointer (some ⟨rb, ro + q * 2, none⟩)), .val (.agg #[.int .i64 yl, .slice xo yr.length xrc]), .fact (fun v w' => ∃ d, v = .slice (some ⟨d, 0, none⟩) 1 1 ∧ V.heap.size ≤ d ∧ w'.heap[d]? = some (.cells #[.int .i64 yl, .slice xo yr.length xrc] 43 (0, 0)))] [_, _, _] (by kernel_rfl) (by kernel_rfl) rfl ?kept ?walk
  case kept => exact ⟨fun v w1 w2 hL ⟨d, e, h1, h2⟩ => ⟨d, e, h1, by rw [hL.block _ (Array.getElem?_eq_some_iff.1 h2).1]; exact h2⟩, trivial⟩
  case walk =>
    refine wpFacts_val (by rfl) (fun w5 hL hd K hK => ?_) ?_
    · go_simp
      exact hK _ (Lat.refl _)
    refine wpFacts_norm (by simp only [Act.put, List.setIfInBounds_toArray, List.set_cons_zero, List.set_cons_succ]; rfl) (by simp only [List.nil_append]; rfl) ?_
    refine wpFacts_val (by rfl) (fun w5 hL hd K hK => ?_) ?_
    · have c2 := cell_later (HS.out w5 hL).2.2 a2
      go_simp
      exact hK _ (Lat.refl _)
    refine wpFacts_norm (by simp only [Act.put, List.setIfInBounds_toArray, List.set_cons_zero, List.set_cons_succ]; rfl) (by simp only [List.cons_append, List.nil_append]; rfl) ?_
    refine wpFacts_val (by rfl) (fun w5 hL hd K hK => ?_) ?_
    · go_simp
      exact hK _ (Lat.refl _)
    refine wpFacts_norm (by simp only [Act.put, List.setIfInBounds_toArray, List.set_cons_zero, List.set_cons_succ]; rfl) (by simp only [List.cons_append, List.nil_append]; rfl) ?_
    refine wpFacts_val (by rfl) (fun w5 hL hd K hK => ?_) ?_
    · have c2 := cell_later (HS.out w5 hL).2.2 g2
      go_simp
      exact hK _ (Lat.refl _)
    refine wpFacts_norm (by simp only [Act.put, List.setIfInBounds_toArray, List.set_cons_zero, List.set_cons_succ]; rfl) (by simp only [List.cons_append, List.nil_append]; rfl) ?_
    refine wpFacts_val (by rfl) (fun w5 hL hd K hK => ?_) ?_
    · go_simp
      exact hK _ (Lat.refl _)
    refine wpFacts_norm (by simp only [Act.put, List.setIfInBounds_toArray, List.set_cons_zero, List.set_cons_succ]; rfl) (by simp only [List.cons_append, List.nil_append]; rfl) ?_
    refine wpFacts_val (by rfl) (fun w5 hL hd K hK => ?_) ?_
    · go_simp
      exact hK _ (Lat.refl _)
    refine wpFacts_norm (by simp only [Act.put, List.setIfInBounds_toArray, List.set_cons_zero, List.set_cons_succ]; rfl) (by simp only [List.cons_append, List.nil_append]; rfl) ?_
    refine wpFacts_val (by rfl) (fun w5 hL hd K hK => ?_) ?_
    · go_simp
      exact hK _ (Lat.refl _)
    refine wpFacts_norm (by simp only [Act.put, List.setIfInBounds_toArray, List.set_cons_zero, List.set_cons_succ]; rfl) (by simp only [List.cons_append, List.nil_append]; rfl) ?_
    refine wpFacts_val (by rfl) (fun w5 hL hd K hK => ?_) ?_
    · have c2 := cell_later (HS.out w5 hL).2.2 g2
      go_simp
      exact hK _ (Lat.refl _)
    refine wpFacts_norm (by simp only [Act.put, List.setIfInBounds_toArray, List.set_cons_zero, List.set_cons_succ]; rfl) (by simp only [List.cons_append, List.nil_append]; rfl) ?_
    refine wpFacts_val (by rfl) (fun w5 hL hd K hK => ?_) ?_
    · go_simp
      exact hK _ (Lat.refl _)
    refine wpFacts_norm (by simp only [Act.put, List.setIfInBounds_toArray, List.set_cons_zero, List.set_cons_succ]; rfl) (by simp only [List.cons_append, List.nil_append]; rfl) ?_
    refine wpFacts_val (by rfl) (fun w5 hL hd K hK => ?_) ?_
    · go_simp
      exact hK _ (Lat.refl _)
    refine wpFacts_norm (by simp only [Act.put, List.setIfInBounds_toArray, List.set_cons_zero, List.set_cons_succ]; rfl) (by simp only [List.cons_append, List.nil_append]; rfl) ?_
    refine wpFacts_val (by rfl) (fun w5 hL hd K hK => ?_) ?_
    · go_simp
      exact hK _ (Lat.refl _)
    refine wpFacts_norm (by simp only [Act.put, List.setIfInBounds_toArray, List.set_cons_zero, List.set_cons_succ]; rfl) (by simp only [List.cons_append, List.nil_append]; rfl) ?_
    refine wpFacts_val (by rfl) (fun w5 hL hd K hK => ?_) ?_
    · have c0 := cell_later (HS.out w5 hL).1 HK0.out.1
      have c1 := cell_later (HS.out w5 hL).1 HK0.out.2
      go_simp
      exact hK _ (Lat.refl _)
    refine wpFacts_norm (by simp only [Act.put, List.setIfInBounds_toArray, List.set_cons_zero, List.set_cons_succ]; rfl) (by simp only [List.cons_append, List.nil_append]; rfl) ?_
    refine wpFacts_fact (by rfl) (fun w5 hL hd K hK => ?_) (fun v12 => ?_)
    · go_simp
      exact hK (.slice (some ⟨w5.heap.size, 0, none⟩) 1 1) _ (Below.alloc (Below.refl _ _) (Nat.le_refl _) _) ⟨w5.heap.size, rfl, (HS.out w5 hL).2.1, heap_alloc_new w5 _⟩
    refine wpFacts_norm (by simp only [Act.put, List.setIfInBounds_toArray, List.set_cons_zero, List.set_cons_succ]; rfl) (by simp only [List.cons_append, List.nil_append]; rfl) ?_
    intro w5 hL ha
    obtain ⟨d, rfl, hd1, hd2⟩ : ∃ d, v12 = .slice (some ⟨d, 0, none⟩) 1 1 ∧ V.heap.size ≤ d ∧ w5.heap[d]? = some (.cells #[.int .i64 yl, .slice xo yr.length xrc] 43 (0, 0)) := allHold_get 12 ha rfl rfl
    clear ha
    obtain ⟨d0, d1, _, _⟩ := cells_two_z hd2
    have HB5 : Hid (Below V.heap.size V w5) := (HS.out w5 hL).2.2
    have HBw5 : Hid (Below w.heap.size w w5) := (HS.out w5 hL).1
    have HO5 : Hid (GmOwn w2.heap.size w5 g ⟨ta1, tc1, na1, nc1, ra1, rc1⟩) := HO4.out.below HB5.out
    have b55 : Hid (w5.heap[X5]? = some (.cells #[.slice ta1 g.terms.length tc1, .slice na1 g.names.length nc1, .slice ra1 g.rules.length rc1] 26 (0, 0))) := (HB5.out.block _ hV.out).trans b5.out
    have hw25 : w2.heap.size ≤ w5.heap.size := Nat.le_trans HB4.out.size HB5.out.size
    have hww2 : w.heap.size ≤ w2.heap.size := HBw2.out.size
    refine wpList_append_any rfl (.tmp 31) (.tmp 42) rfl w2.heap.size (.slice ra1 g.rules.length rc1) g.rules rfl HO5.out.rules d 1 (yl, yr) xo xrc rfl d0 d1 ((KI.out.later HBw5.out).mono hww2) hxrc (by omega) hw25 X5 hX5 _ b55.out ?_
    intro ga cap w6 hrls hcap1 hcap2 hg6
    have HB26 : Hid (Below w2.heap.size w2 w6) := (HB4.out.trans (HB5.out.mono HB4.out.size)).grown hg6 hw25 (fun k hk => by obtain ⟨ps, _, h2, _⟩ := HO5.out.rules; exact (h2.lt k hk).1)
    have b56 : Hid (w6.heap[X5]? = some (.cells #[.slice ta1 g.terms.length tc1, .slice na1 g.names.length nc1, .slice ra1 g.rules.length rc1] 26 (0, 0))) := by
      show _ = _
      rw [hg6.block X5 (Array.getElem?_eq_some_iff.1 b55.out).1 (fun e => own_rls_ne HO5.out.rules b55.out (by decide) e.symm)]; exact b55.out
    obtain ⟨a0, a1, a2, az0, az1, az2⟩ := cells_three_z b56.out
    have HGH : Hid (GmAt (w6.setCell ⟨X5, 2, none⟩ (.slice (some ⟨ga, 0, none⟩) (g.rules.length + 1) cap)).heap.size (w6.setCell ⟨X5, 2, none⟩ (.slice (some ⟨ga, 0, none⟩) (g.rules.length + 1) cap)) ⟨g.terms, g.names, g.rules ++ [(yl, yr)]⟩ ⟨ta1, tc1, na1, nc1, some ⟨ga, 0, none⟩, cap⟩) := by
      obtain ⟨ps, _, hps, _⟩ := HO5.out.rules
      have t1 := World.ownsRow.kept HO5.out.terms hg6 (row_apart HO5.out.terms hps (by decide))
      have t2 : OwnStrs w2.heap.size (w6.setCell ⟨X5, 2, none⟩ (.slice (some ⟨ga, 0, none⟩) (g.rules.length + 1) cap)) (.slice ta1 g.terms.length tc1) g.terms := ownsRow_setCell_other t1 (own_ne t1 b56.out (by decide)) _
      have n1 := World.ownsRow.kept HO5.out.names hg6 (row_apart HO5.out.names hps (by decide))
      have n2 : OwnStrs w2.heap.size (w6.setCell ⟨X5, 2, none⟩ (.slice (some ⟨ga, 0, none⟩) (g.rules.length + 1) cap)) (.slice na1 g.names.length nc1) g.names := ownsRow_setCell_other n1 (own_ne n1 b56.out (by decide)) _
      obtain ⟨_, _, e1, s1, s2, s3, _⟩ := OwnStrs.read t2
      cases e1
      obtain ⟨_, _, e2, q1, q2, q3, _⟩ := OwnStrs.read n2
      cases e2
      exact ⟨s1, q1, hrls _, ⟨s2, s3⟩, ⟨q2, q3⟩, ⟨by simpa using hcap1, hcap2⟩, HO5.out.ttext, HO5.out.ntext⟩
    have HB27 : Hid (Below w2.heap.size w2 (w6.setCell ⟨X5, 2, none⟩ (.slice (some ⟨ga, 0, none⟩) (g.rules.length + 1) cap))) := HB26.out.setCell hX5 _
    have b57 : Hid ((w6.setCell ⟨X5, 2, none⟩ (.slice (some ⟨ga, 0, none⟩) (g.rules.length + 1) cap)).heap[X5]? = some (.cells #[.slice ta1 g.terms.length tc1, .slice na1 g.names.length nc1, .slice (some ⟨ga, 0, none⟩) (g.rules.length + 1) cap] 26 (0, 0))) := gset1 b56.out
    clear hrls hcap1 hcap2 hg6 hd1 hd2 d0 d1 hL HS HB5 HBw5 HO5 HO4 b55 HB26 HB4 b5 hV hw25 b56
    have HGc : Hid (∀ _ : Unit, _) := fun _ => good_is false ⟨g.terms, g.names, g.rules ++ [(yl, yr)]⟩ ⟨ta1, tc1, na1, nc1, some ⟨ga, 0, none⟩, cap⟩ _ (fun x hx => by
      rcases List.mem_append.1 hx with hx | hx
      · have := H8.out x hx; unfold maxLen; omega
      · rw [List.mem_singleton] at hx; subst hx; have := H8q.out; unfold maxLen; simp only; omega) HGH.out HTW.out
    simp only [gmCells, List.length_append, List.length_cons, List.length_nil] at HGc
    go_wp2_with (go_at_call 12; fail)
    refine (HGc.out ()).mono ?_
    rintro e w8 ⟨rfl, hb8⟩
    have HBW8 : Hid (Below W.heap.size W w8) := (HB2.out.trans (HB27.out.mono HB2.out.size)).trans (hb8.mono (by have := HB2.out.size; have := HB27.out.size; omega))
    clear hb8 HGc HB27 HGH b57 a0 a1 a2 az0 az1 az2 g0 g1 g2 HTW H8q KI HK0 hxrc HB2 hX5 hww2 HBw2
    obtain ⟨g0, g1, g2, _⟩ := cells_three_z ((HBW8.out.block _ (by rw [hWs.out]; omega)).trans b0.out)
    have HBw8 : Hid (Below w.heap.size w w8) := hbW.out.trans (HBW8.out.mono hbW.out.size)
    go_wp2_with (go_at_call 15; fail)
    refine (HOW.out _ HBw8.out).mono ?_
    rintro e w9 ⟨⟨ta2, tc2, na2, nc2, ra2, rc2⟩, rfl, ho9, hb9, HD9⟩
    simp only
    have hbA : Hid (Below w9.heap.size w9 ((w9.alloc (Obj.cells #[.slice ta2 g.terms.length tc2, .slice na2 g.names.length nc2, .slice ra2 g.rules.length rc2] 26)).alloc (Obj.cells #[.string ⟨#[122, 122, 57]⟩] 9))) := ((Below.refl _ w9).alloc (Nat.le_refl _) _).alloc (by simp) _
    have b6 : Hid (((w9.alloc (Obj.cells #[.slice ta2 g.terms.length tc2, .slice na2 g.names.length nc2, .slice ra2 g.rules.length rc2] 26)).alloc (Obj.cells #[.string ⟨#[122, 122, 57]⟩] 9)).heap[w9.heap.size]? = some (.cells #[.slice ta2 g.terms.length tc2, .slice na2 g.names.length nc2, .slice ra2 g.rules.length rc2] 26 (0, 0))) := by
      show _ = _; rw [Below.heap_alloc _ _ _ (by simp)]; exact heap_alloc_new w9 _
    have HO9 : Hid (GmOwn w8.heap.size ((w9.alloc (Obj.cells #[.slice ta2 g.terms.length tc2, .slice na2 g.names.length nc2, .slice ra2 g.rules.length rc2] 26)).alloc (Obj.cells #[.string ⟨#[122, 122, 57]⟩] 9)) g ⟨ta2, tc2, na2, nc2, ra2, rc2⟩) := ho9.out.below hbA.out
    have HB9 : Hid (Below w8.heap.size w8 ((w9.alloc (Obj.cells #[.slice ta2 g.terms.length tc2, .slice na2 g.names.length nc2, .slice ra2 g.rules.length rc2] 26)).alloc (Obj.cells #[.string ⟨#[122, 122, 57]⟩] 9))) := hb9.out.trans (hbA.out.mono hb9.out.size)
    have hX6 : w8.heap.size ≤ w9.heap.size := hb9.out.size
    clear hbA ho9 hb9
    go_wp2_with (at_builtin; refine wpList_append_str rfl _ _ rfl w8.heap.size (.slice na2 g.names.length nc2) g.names rfl HO9.out.names (w9.heap.size + 1) 1 ⟨#[122, 122, 57]⟩ rfl (by simp [go_sem]) (by omega) HB9.out.size ?_)
    intro gb capb w10 ho10 hg10
    have b66 : Hid (w10.heap[w9.heap.size]? = some (.cells #[.slice ta2 g.terms.length tc2, .slice na2 g.names.length nc2, .slice ra2 g.rules.length rc2] 26 (0, 0))) := by
      show _ = _
      rw [hg10.block _ (Array.getElem?_eq_some_iff.1 b6.out).1 (fun e => own_ne HO9.out.names b6.out (by decide) e.symm)]; exact b6.out
    have HB10 : Hid (Below w8.heap.size w8 w10) := HB9.out.grown hg10 HB9.out.size (fun k hk => (HO9.out.names.lt k hk).1)
    have HGI : Hid (GmAt (w10.setCell ⟨w9.heap.size, 1, none⟩ (.slice (some ⟨gb, 0, none⟩) (g.names.length + 1) capb)).heap.size (w10.setCell ⟨w9.heap.size, 1, none⟩ (.slice (some ⟨gb, 0, none⟩) (g.names.length + 1) capb)) ⟨g.terms, g.names ++ [⟨#[122, 122, 57]⟩], g.rules⟩ ⟨ta2, tc2, some ⟨gb, 0, none⟩, capb, ra2, rc2⟩) := by
      have t1 : OwnStrs w8.heap.size w10 (.slice ta2 g.terms.length tc2) g.terms := World.ownsRow.kept HO9.out.terms hg10 (.inr fun e => HD9.out h1n e.symm)
      have r1 : OwnRls w8.heap.size w10 (.slice ra2 g.rules.length rc2) g.rules := HO9.out.rules.kept_row HO9.out.names hg10 (by decide) (by decide)
      have t2 := t1.set_other (o := 1) b66.out (.slice (some ⟨gb, 0, none⟩) (g.names.length + 1) capb)
      have n2 := OwnStrs.set_other (o := 1) ho10 b66.out (.slice (some ⟨gb, 0, none⟩) (g.names.length + 1) capb)
      have r2 := r1.set_other (o := 1) b66.out (.slice (some ⟨gb, 0, none⟩) (g.names.length + 1) capb)
      obtain ⟨_, _, e1, s1, s2, s3, _⟩ := OwnStrs.read t2
      cases e1
      obtain ⟨_, _, e2, q1, q2, q3, _⟩ := OwnStrs.read n2
      rw [List.length_append] at e2
      cases e2
      obtain ⟨_, _, e3, u1, u2, u3, _⟩ := OwnRls.read r2
      cases e3
      refine ⟨s1, q1, u1, ⟨s2, s3⟩, ⟨q2, q3⟩, ⟨u2, u3⟩, HO9.out.ttext, fun s hs => ?_⟩
      rcases List.mem_append.1 hs with hs | hs
      · exact HO9.out.ntext s hs
      · rw [List.mem_singleton] at hs; subst hs; decide
    have b67 : Hid ((w10.setCell ⟨w9.heap.size, 1, none⟩ (.slice (some ⟨gb, 0, none⟩) (g.names.length + 1) capb)).heap[w9.heap.size]? = some (.cells #[.slice ta2 g.terms.length tc2, .slice (some ⟨gb, 0, none⟩) (g.names.length + 1) capb, .slice ra2 g.rules.length rc2] 26 (0, 0))) := gset_one b66.out
    have HB11 : Hid (Below w8.heap.size w8 (w10.setCell ⟨w9.heap.size, 1, none⟩ (.slice (some ⟨gb, 0, none⟩) (g.names.length + 1) capb))) := HB10.out.setCell hX6 _
    obtain ⟨p0, p1, p2, pz0, pz1, pz2⟩ := cells_three_z b66.out
    replace g0 := cell_later HB11.out g0
    replace g1 := cell_later HB11.out g1
    replace g2 := cell_later HB11.out g2
    clear ho10 hg10 HO9 HB9 HB10 b6 b66
    go_upto_region 9 with fail
    clear p0 p1 p2 pz0 pz1 pz2
    generalize (w10.setCell ⟨w9.heap.size, 1, none⟩ (.slice (some ⟨gb, 0, none⟩) (g.names.length + 1) capb)) = w11 at *
    have HBW11 : Hid (Below W.heap.size W w11) := HBW8.out.trans (HB11.out.mono HBW8.out.size)
    have HBw11 : Hid (Below w.heap.size w w11) := hbW.out.trans (HBW11.out.mono hbW.out.size)
    have hX6l : w9.heap.size < w11.heap.size := (Array.getElem?_eq_some_iff.1 b67.out).1
    clear HB11 HBW8 HBw8 hX6
    generalize w9.heap.size = X6 at *
    go_wp2_with (go_at_call 15; fail)
    refine (HOW.out _ HBw11.out).mono ?_
    rintro e w12 ⟨⟨ta3, tc3, na3, nc3, ra3, rc3⟩, rfl, ho12, hb12, _⟩
    simp only
    obtain ⟨rb3, ro3, _, _, hra3, _⟩ := ho12.out.at.rules 0 h1r
    simp only at hra3
    subst hra3
    have hc3 : (g.rules.length : Int) ≤ (rc3 : Int) := by have := ho12.out.at.rcap.1; simp only at this; omega
    have h1ri : (1 : Int) ≤ (g.rules.length : Int) := by omega
    obtain ⟨m, hm⟩ : ∃ m, g.rules.length = m + 1 := ⟨g.rules.length - 1, by omega⟩
    have HM : Hid (g.rules.length = m + 1) := hm
    clear hm
    have b7 : Hid ((w12.alloc (Obj.cells #[.slice ta3 g.terms.length tc3, .slice na3 g.names.length nc3, .slice (some ⟨rb3, ro3, none⟩) (g.rules.length - 1) rc3] 26)).heap[w12.heap.size]? = some (.cells #[.slice ta3 g.terms.length tc3, .slice na3 g.names.length nc3, .slice (some ⟨rb3, ro3, none⟩) (g.rules.length - 1) rc3] 26 (0, 0))) := heap_alloc_new w12 _
    have hbA : Hid (Below w12.heap.size w12 (w12.alloc (Obj.cells #[.slice ta3 g.terms.length tc3, .slice na3 g.names.length nc3, .slice (some ⟨rb3, ro3, none⟩) (g.rules.length - 1) rc3] 26))) := (Below.refl _ w12).alloc (Nat.le_refl _) _
    have HB7 : Hid (Below w11.heap.size w11 (w12.alloc (Obj.cells #[.slice ta3 g.terms.length tc3, .slice na3 g.names.length nc3, .slice (some ⟨rb3, ro3, none⟩) (g.rules.length - 1) rc3] 26))) := hb12.out.trans (hbA.out.mono hb12.out.size)
    have HGJ : Hid (GmAt (w12.alloc (Obj.cells #[.slice ta3 g.terms.length tc3, .slice na3 g.names.length nc3, .slice (some ⟨rb3, ro3, none⟩) (g.rules.length - 1) rc3] 26)).heap.size (w12.alloc (Obj.cells #[.slice ta3 g.terms.length tc3, .slice na3 g.names.length nc3, .slice (some ⟨rb3, ro3, none⟩) (g.rules.length - 1) rc3] 26)) ⟨g.terms, g.names, g.rules.take m⟩ ⟨ta3, tc3, na3, nc3, some ⟨rb3, ro3, none⟩, rc3⟩) := by
      have h := ho12.out.at.next hbA.out
      have h2 := h.rcap
      simp only at h2
      exact ⟨h.terms, h.names, h.rules.take m, h.tcap, h.ncap, ⟨by rw [List.length_take]; simp only; have := HM.out; omega, h2.2⟩, h.ttext, h.ntext⟩
    go_upto_region 11 with fail
    clear hbA ho12 hb12 g0 g1 g2
    have hX7l : w12.heap.size < (w12.alloc (Obj.cells #[.slice ta3 g.terms.length tc3, .slice na3 g.names.length nc3, .slice (some ⟨rb3, ro3, none⟩) (g.rules.length - 1) rc3] 26)).heap.size := (Array.getElem?_eq_some_iff.1 b7.out).1
    generalize (w12.alloc (Obj.cells #[.slice ta3 g.terms.length tc3, .slice na3 g.names.length nc3, .slice (some ⟨rb3, ro3, none⟩) (g.rules.length - 1) rc3] 26)) = V7 at *
    generalize w12.heap.size = X7 at *
    have HBW7 : Hid (Below W.heap.size W V7) := HBW11.out.trans (HB7.out.mono HBW11.out.size)
    have HBw7 : Hid (Below w.heap.size w V7) := hbW.out.trans (HBW7.out.mono hbW.out.size)
    have B6 : Hid (V7.heap[X6]? = some (.cells #[.slice ta2 g.terms.length tc2, .slice (some ⟨gb, 0, none⟩) (g.names.length + 1) capb, .slice ra2 g.rules.length rc2] 26 (0, 0))) := (HB7.out.block _ hX6l).trans b67.out
    have HGI7 : Hid (GmAt V7.heap.size V7 ⟨g.terms, g.names ++ [⟨#[122, 122, 57]⟩], g.rules⟩ ⟨ta2, tc2, some ⟨gb, 0, none⟩, capb, ra2, rc2⟩) := HGI.out.next HB7.out
    have BG : Hid (V7.heap[w.heap.size]? = some (.cells #[.slice ta g.terms.length tc, .slice na g.names.length nc, .slice (some ⟨rb, ro, none⟩) g.rules.length rc] 26 (0, 0))) := (HBW7.out.block _ (by rw [hWs.out]; omega)).trans b0.out
    obtain ⟨g0, g1, g2, _⟩ := cells_three_z BG.out
    have hX6V : X6 < V7.heap.size := Nat.lt_of_lt_of_le hX6l HB7.out.size
    have hwV : w.heap.size < V7.heap.size := (Array.getElem?_eq_some_iff.1 BG.out).1
    clear HB7 HBW11 HBw11 b67 HGI hX6l hqe hqi hwr htm hlen0 hql
    have hml : m < g.rules.length := by have := HM.out; omega
    obtain ⟨rb', ro', xo2, xrc2, hra', _, _, l0, l1, li, hx2⟩ := HG.out.rules m hml
    simp only at hra'
    cases hra'
    replace l0 := cell_later HBw7.out l0
    replace l1 := cell_later HBw7.out l1
    have HLESS : Hid (Gr.good ⟨g.terms, g.names, g.rules.take m⟩ = (Gr.lastCame g (g.rules.take m) g.rules[m] && decide (0 < m))) := Gr.good_less HGOOD.out m HM.out.symm _ (List.getElem?_eq_getElem hml)
    have LI : Hid (IntsAt V7.heap.size V7 xo2 g.rules[m].2) := (li.later HBw7.out).size
    have H8m : Hid (g.rules[m].2.length ≤ 8) := H8.out _ (List.getElem_mem hml)
    have HPm : Hid (∀ s ∈ g.rules[m].2, 0 ≤ s) := HPOS.out _ (List.getElem_mem hml)
    clear li
    generalize g.rules[m] = z at *
    obtain ⟨zl, zr⟩ := z
    simp only at l0 l1 LI H8m HPm hx2
    have hlm : ((g.rules.length : Int) - 1) = (m : Int) := by have := HM.out; omega
    have hmi : (m : Int) < (g.rules.length : Int) := by omega
    have hm0 : (0 : Int) ≤ (m : Int) := by omega
    rw [show g.rules.length - 1 = m from by have := HM.out; omega] at b7
    have hmk := make_bools g.terms.length (by omega)
    go_wp2_with fail
    clear hmk
    have HI0 : Hid (SInv ((V7.alloc (Obj.cells #[.int .i64 zl, .slice xo2 zr.length xrc2] 43)).alloc (Obj.cells (Gr.cameL g.terms.length []).toArray 4)) ((V7.alloc (Obj.cells #[.int .i64 zl, .slice xo2 zr.length xrc2] 43)).alloc (Obj.cells (Gr.cameL g.terms.length []).toArray 4)) (V7.heap.size + 1) g.terms.length []) := by
      refine ⟨Below.refl _ _, by simp, ?_⟩
      have := heap_alloc_new (V7.alloc (Obj.cells #[.int .i64 zl, .slice xo2 zr.length xrc2] 43)) (Obj.cells (Gr.cameL g.terms.length []).toArray 4)
      simpa using this
    have HV9 : Hid (Below V7.heap.size V7 ((V7.alloc (Obj.cells #[.int .i64 zl, .slice xo2 zr.length xrc2] 43)).alloc (Obj.cells (Gr.cameL g.terms.length []).toArray 4))) := ((Below.refl _ V7).alloc (Nat.le_refl _) _).alloc (by simp) _
    have b8 : Hid (((V7.alloc (Obj.cells #[.int .i64 zl, .slice xo2 zr.length xrc2] 43)).alloc (Obj.cells (Gr.cameL g.terms.length []).toArray 4)).heap[V7.heap.size]? = some (.cells #[.int .i64 zl, .slice xo2 zr.length xrc2] 43 (0, 0))) := by
      show _ = _; rw [Below.heap_alloc _ _ _ (by simp)]; exact heap_alloc_new V7 _
    generalize ((V7.alloc (Obj.cells #[.int .i64 zl, .slice xo2 zr.length xrc2] 43)).alloc (Obj.cells (Gr.cameL g.terms.length []).toArray 4)) = V9 at *
    have HRL : Hid ((g.rules.take m).length = m) := by show _ = _; rw [List.length_take]; omega
    have HR8 : Hid (∀ r ∈ g.rules.take m, r.2.length ≤ 8 ∧ ∀ s ∈ r.2, 0 ≤ s) := fun r hr => ⟨H8.out r (List.mem_of_mem_take hr), HPOS.out r (List.mem_of_mem_take hr)⟩
    -- what lies below the list that grows
    have HC : Hid (∀ wr : World, Below (V7.heap.size + 1) V9 wr → Below V7.heap.size V7 wr) := fun wr h => HV9.out.trans (h.mono (Nat.le_succ _))
    clear l0 l1 g0 g1 g2
    go_loopw [9, 11] (fun lv kv wr => ∃ k : Nat, k ≤ m ∧ kv = .int .i64 k ∧ lv = .bool (Gr.has zl (((g.rules.take m).take k).map (·.1))) ∧ Hid (SInv V9 wr (V7.heap.size + 1) g.terms.length (Gr.rights ((g.rules.take m).take k)))) (fun _ kv _ => m - (intOf kv).toNat)
    case atStart => exact ⟨0, Nat.zero_le _, rfl, rfl, HI0⟩
    case round =>
      obtain ⟨k, hk, rfl, rfl, hinv⟩ := hrel
      clear HI0
      have HBr : Hid (Below V7.heap.size V7 wr) := HC.out _ hinv.out.below
      obtain ⟨j0, j1, j2, _⟩ := cells_three_z ((HBr.out.block _ hX7l).trans b7.out)
      obtain ⟨e0, e1, _, _⟩ := cells_two_z ((hinv.out.below.block _ (Nat.lt_succ_self _)).trans b8.out)
      obtain ⟨g0, g1, g2, _⟩ := cells_three_z ((HBr.out.block _ hwV).trans BG.out)
      by_cases hlt : k < m
      · have hki : (k : Int) < (m : Int) := by omega
        have hkl : k < (g.rules.take m).length := by rw [HRL.out]; exact hlt
        obtain ⟨rb', ro', po, prc, hra', hpb, _, p0, p1, pI, _⟩ := HGJ.out.rules k hkl
        simp only at hra'
        cases hra'
        have HTK : Hid (Gr.rights ((g.rules.take m).take (k + 1)) = Gr.rights ((g.rules.take m).take k) ++ (g.rules.take m)[k].2) := Gr.rights_step _ _ hkl
        have HHS : Hid (Gr.has zl (((g.rules.take m).take (k + 1)).map (·.1)) = (Gr.has zl (((g.rules.take m).take k).map (·.1)) || decide ((g.rules.take m)[k].1 = zl))) := by
          show _ = _
          have := Gr.has_step1 zl ((g.rules.take m).map (·.1)) k (by rw [List.length_map]; exact hkl)
          rw [List.getElem_map, ← List.map_take, ← List.map_take] at this
          exact this
        have H8k : Hid ((g.rules.take m)[k].2.length ≤ 8 ∧ ∀ s ∈ (g.rules.take m)[k].2, 0 ≤ s) := HR8.out _ (List.getElem_mem hkl)
        have PI : Hid (IntsAt V7.heap.size V7 po (g.rules.take m)[k].2) := pI
        replace p0 := cell_later HBr.out p0
        have P1 : Hid (V7.cell? ⟨rb3, ro3 + k * 2 + 1, none⟩ = some (.slice po (g.rules.take m)[k].2.length prc)) := p1
        replace p1 := cell_later HBr.out p1
        generalize (g.rules.take m)[k] = y2 at *
        obtain ⟨pl, pr⟩ := y2
        simp only at p0 p1 PI H8k HTK HHS P1
        clear pI
        generalize Gr.has zl (((g.rules.take m).take k).map (·.1)) = lb at *
        generalize Gr.rights ((g.rules.take m).take k) = xs at *
        go_upto_region 17 with fail
        go_cut [9] (fun v wc => v = .bool (lb || decide (pl = zl)) ∧ Hid (SInv V9 wc (V7.heap.size + 1) g.terms.length xs))
        case first =>
          cases lb
          · by_cases hpl : pl = zl
            · subst hpl
              go_quiet (fail)
              go_wp2_with fail
              go_meet
              case rel => exact ⟨by simp, hinv.out.drewN _⟩
            · have hpd : (pl == zl) = false := by simp [hpl]
              go_quiet (fail)
              go_wp2_with fail
              go_meet
              case rel => exact ⟨by simp [hpl], hinv.out.drewN _⟩
          · go_quiet (fail)
            go_wp2_with fail
            go_meet
            case rel => exact ⟨rfl, hinv.out.drewN _⟩
        case rest =>
          obtain ⟨rfl, hic⟩ := hcut
          clear j0 j1 j2 e0 e1 g0 g1 g2 p0 p1 HBr hinv
          obtain ⟨lb2, HLB⟩ : ∃ lb2 : Bool, Hid (lb2 = Gr.has zl (((g.rules.take m).take (k + 1)).map (·.1))) := ⟨_, rfl⟩
          rw [← HHS.out, ← HLB.out]
          clear HHS
          go_wp2_with fail
          go_loopw [12] (fun dv wi => ∃ d2 : Nat, d2 ≤ pr.length ∧ dv = .int .i64 d2 ∧ Hid (SInv V9 wi (V7.heap.size + 1) g.terms.length (xs ++ pr.take d2))) (fun dv _ => pr.length - (intOf dv).toNat)
          case atStart => exact ⟨0, Nat.zero_le _, rfl, by rw [List.take_zero, List.append_nil]; exact hic⟩
          case round =>
            obtain ⟨d2, hd2, rfl, hi2⟩ := hrel
            clear hic
            have HBr : Hid (Below V7.heap.size V7 wr) := HC.out _ hi2.out.below
            obtain ⟨j0, j1, j2, _⟩ := cells_three_z ((HBr.out.block _ hX7l).trans b7.out)
            obtain ⟨g0, g1, g2, _⟩ := cells_three_z ((HBr.out.block _ hwV).trans BG.out)
            have p1 := cell_later HBr.out P1.out
            by_cases hld : d2 < pr.length
            · have hldi : (d2 : Int) < (pr.length : Int) := by omega
              have h8p := H8k.out.1
              obtain ⟨pb, pq, rfl, _, _, s0⟩ := PI.out.get d2 hld
              replace s0 := cell_later HBr.out s0
              have HTD : Hid (xs ++ pr.take (d2 + 1) = (xs ++ pr.take d2) ++ [pr[d2]]) := by show _ = _; rw [List.take_add_one, List.getElem?_eq_getElem hld, List.append_assoc]; rfl
              have hs0 : 0 ≤ pr[d2] := H8k.out.2 _ (List.getElem_mem hld)
              generalize pr[d2] = sv at *
              obtain ⟨u, hu⟩ : ∃ u : Nat, min sv (g.terms.length : Int) = (u : Int) := ⟨(min sv (g.terms.length : Int)).toNat, by omega⟩
              have hul : u ≤ g.terms.length := by omega
              have hui : (u : Int) < (g.terms.length : Int) + 1 := by omega
              go_upto_region 21 with fail
              refine wp_region_lat [.val (.slice (some ⟨V7.heap.size + 1, 0, none⟩) (g.terms.length + 1) (g.terms.length + 1)), .val (.pointer (some ⟨X7, 2, none⟩)), .val (.slice (some ⟨rb3, ro3, none⟩) m rc3), .val (.int .i64 k), .val (.pointer (some ⟨rb3, ro3 + k * 2, none⟩)), .val (.pointer (some ⟨rb3, ro3 + k * 2 + 1, none⟩)), .val (.slice (some ⟨pb, pq, none⟩) pr.length prc), .val (.int .i64 d2), .val (.pointer (some ⟨pb, pq + d2, none⟩)), .val (.int .i64 sv), .val (.pointer (some ⟨w.heap.size, 0, none⟩)), .val (.slice ta g.terms.length tc), .val (.int .i64 g.terms.length), .val (.int .i64 u), .val (.pointer (some ⟨V7.heap.size + 1, u, none⟩))] [_] (by kernel_rfl) (by kernel_rfl) rfl trivial ?_
              refine wpFacts_val (by rfl) (fun w5 hL hd K hK => ?_) ?_
              · go_simp
                exact hK _ (Lat.refl _)
              refine wpFacts_norm (by simp only [Act.put, List.setIfInBounds_toArray, List.set_cons_zero, List.set_cons_succ]; rfl) (by simp only [List.nil_append]; rfl) ?_
              refine wpFacts_val (by rfl) (fun w5 hL hd K hK => ?_) ?_
              · go_simp
                exact hK _ (Lat.refl _)
              refine wpFacts_norm (by simp only [Act.put, List.setIfInBounds_toArray, List.set_cons_zero, List.set_cons_succ]; rfl) (by simp only [List.cons_append, List.nil_append]; rfl) ?_
              refine wpFacts_val (by rfl) (fun w5 hL hd K hK => ?_) ?_
              · have c2 := cell_later hL.of_drew j2
                go_simp
                exact hK _ (Lat.refl _)
              refine wpFacts_norm (by simp only [Act.put, List.setIfInBounds_toArray, List.set_cons_zero, List.set_cons_succ]; rfl) (by simp only [List.cons_append, List.nil_append]; rfl) ?_
              refine wpFacts_val (by rfl) (fun w5 hL hd K hK => ?_) ?_
              · go_simp
                exact hK _ (Lat.refl _)
              refine wpFacts_norm (by simp only [Act.put, List.setIfInBounds_toArray, List.set_cons_zero, List.set_cons_succ]; rfl) (by simp only [List.cons_append, List.nil_append]; rfl) ?_
              refine wpFacts_val (by rfl) (fun w5 hL hd K hK => ?_) ?_
              · go_simp
                exact hK _ (Lat.refl _)
              refine wpFacts_norm (by simp only [Act.put, List.setIfInBounds_toArray, List.set_cons_zero, List.set_cons_succ]; rfl) (by simp only [List.cons_append, List.nil_append]; rfl) ?_
              refine wpFacts_val (by rfl) (fun w5 hL hd K hK => ?_) ?_
              · go_simp
                exact hK _ (Lat.refl _)
              refine wpFacts_norm (by simp only [Act.put, List.setIfInBounds_toArray, List.set_cons_zero, List.set_cons_succ]; rfl) (by simp only [List.cons_append, List.nil_append]; rfl) ?_
              refine wpFacts_val (by rfl) (fun w5 hL hd K hK => ?_) ?_
              · have c2 := cell_later hL.of_drew p1
                go_simp
                exact hK _ (Lat.refl _)
              refine wpFacts_norm (by simp only [Act.put, List.setIfInBounds_toArray, List.set_cons_zero, List.set_cons_succ]; rfl) (by simp only [List.cons_append, List.nil_append]; rfl) ?_
              refine wpFacts_val (by rfl) (fun w5 hL hd K hK => ?_) ?_
              · go_simp
                exact hK _ (Lat.refl _)
              refine wpFacts_norm (by simp only [Act.put, List.setIfInBounds_toArray, List.set_cons_zero, List.set_cons_succ]; rfl) (by simp only [List.cons_append, List.nil_append]; rfl) ?_
              refine wpFacts_val (by rfl) (fun w5 hL hd K hK => ?_) ?_
              · go_simp
                exact hK _ (Lat.refl _)
              refine wpFacts_norm (by simp only [Act.put, List.setIfInBounds_toArray, List.set_cons_zero, List.set_cons_succ]; rfl) (by simp only [List.cons_append, List.nil_append]; rfl) ?_
              refine wpFacts_val (by rfl) (fun w5 hL hd K hK => ?_) ?_
              · have c2 := cell_later hL.of_drew s0
                go_simp
                exact hK _ (Lat.refl _)
              refine wpFacts_norm (by simp only [Act.put, List.setIfInBounds_toArray, List.set_cons_zero, List.set_cons_succ]; rfl) (by simp only [List.cons_append, List.nil_append]; rfl) ?_
              refine wpFacts_val (by rfl) (fun w5 hL hd K hK => ?_) ?_
              · go_simp
                exact hK _ (Lat.refl _)
              refine wpFacts_norm (by simp only [Act.put, List.setIfInBounds_toArray, List.set_cons_zero, List.set_cons_succ]; rfl) (by simp only [List.cons_append, List.nil_append]; rfl) ?_
              refine wpFacts_val (by rfl) (fun w5 hL hd K hK => ?_) ?_
              · have c2 := cell_later hL.of_drew g0
                go_simp
                exact hK _ (Lat.refl _)
              refine wpFacts_norm (by simp only [Act.put, List.setIfInBounds_toArray, List.set_cons_zero, List.set_cons_succ]; rfl) (by simp only [List.cons_append, List.nil_append]; rfl) ?_
              refine wpFacts_val (by rfl) (fun w5 hL hd K hK => ?_) ?_
              · go_simp
                exact hK _ (Lat.refl _)
              refine wpFacts_norm (by simp only [Act.put, List.setIfInBounds_toArray, List.set_cons_zero, List.set_cons_succ]; rfl) (by simp only [List.cons_append, List.nil_append]; rfl) ?_
              refine wpFacts_val (by rfl) (fun w5 hL hd K hK => ?_) ?_
              · go_simp
                exact hK _ (Lat.refl _)
              refine wpFacts_norm (by simp only [Act.put, List.setIfInBounds_toArray, List.set_cons_zero, List.set_cons_succ]; rfl) (by simp only [List.cons_append, List.nil_append]; rfl) ?_
              refine wpFacts_val (by rfl) (fun w5 hL hd K hK => ?_) ?_
              · go_simp
                exact hK _ (Lat.refl _)
              refine wpFacts_norm (by simp only [Act.put, List.setIfInBounds_toArray, List.set_cons_zero, List.set_cons_succ]; rfl) (by simp only [List.cons_append, List.nil_append]; rfl) ?_
              intro w5 hL _
              have hi5 : Hid (SInv V9 w5 (V7.heap.size + 1) g.terms.length (xs ++ pr.take d2)) := hi2.out.later hL.of_drew
              obtain ⟨f0, f1⟩ := hi5.out.cell u hul
              have hi6 : Hid (SInv V9 (w5.setCell ⟨V7.heap.size + 1, u, none⟩ (.bool true)) (V7.heap.size + 1) g.terms.length (xs ++ pr.take (d2 + 1))) := by rw [HTD.out]; exact hi5.out.set sv u hs0 hu
              clear j0 j1 j2 g0 g1 g2 p1 s0 hL
              go_wp2_with fail
              go_roundw
              case rel => exact ⟨d2 + 1, by omega, by go_num, hi6⟩
              case measure => simp [intOf]; omega
            · have HE : Hid (xs ++ pr.take d2 = Gr.rights ((g.rules.take m).take (k + 1))) := by show _ = _; rw [HTK.out, List.take_of_length_le (by omega)]
              rw [HE.out] at hi2
              go_wp2_with fail
              go_roundw
              case rel => exact ⟨k + 1, by omega, by go_num, by rw [HLB.out], hi2⟩
              case measure => simp [intOf]; omega
      · have HKE : Hid ((g.rules.take m).take k = g.rules.take m) := by show _ = _; rw [List.take_of_length_le (by rw [HRL.out]; omega)]
        rw [HKE.out] at hinv ⊢
        have HM8 : Hid (∀ r ∈ g.rules, r.2.length ≤ 8) := H8
        clear HKE HR8 H8 HPOS
        have hnk : ¬ (k : Int) < (m : Int) := by omega
        have HLC : Hid (Gr.lastCame g (g.rules.take m) (zl, zr) = (Gr.has zl ((g.rules.take m).map (·.1)) && zr.all (fun s => decide ((g.terms.length : Int) ≤ s) || (g.rules.take m).any (fun x => Gr.has s x.2)))) := rfl
        generalize Gr.has zl ((g.rules.take m).map (·.1)) = lb at *
        go_wp2_with fail
        clear j0 j1 j2 e0 e1 g0 g1 g2 HBr
        go_loopw [9, 13] (fun lv dv wr => ∃ d2 : Nat, d2 ≤ zr.length ∧ dv = .int .i64 d2 ∧ lv = .bool (lb && (zr.take d2).all (fun s => decide ((g.terms.length : Int) ≤ s) || (g.rules.take m).any (fun x => Gr.has s x.2))) ∧ Hid (SInv V9 wr (V7.heap.size + 1) g.terms.length (Gr.rights (g.rules.take m)))) (fun _ dv _ => zr.length - (intOf dv).toNat)
        case atStart => exact ⟨0, Nat.zero_le _, rfl, by simp, hinv⟩
        case round =>
          obtain ⟨d2, hd2, rfl, rfl, hi2⟩ := hrel
          clear hinv
          have HBr : Hid (Below V7.heap.size V7 wr) := HC.out _ hi2.out.below
          obtain ⟨j0, j1, j2, _⟩ := cells_three_z ((HBr.out.block _ hX7l).trans b7.out)
          obtain ⟨e0, e1, _, _⟩ := cells_two_z ((hi2.out.below.block _ (Nat.lt_succ_self _)).trans b8.out)
          obtain ⟨g0, g1, g2, _⟩ := cells_three_z ((HBr.out.block _ hwV).trans BG.out)
          obtain ⟨q0, q1, q2, _⟩ := cells_three_z ((HBr.out.block _ hX6V).trans B6.out)
          by_cases hld : d2 < zr.length
          · have hldi : (d2 : Int) < (zr.length : Int) := by omega
            have h8z := H8m.out
            obtain ⟨pb, pq, rfl, _, _, s0⟩ := LI.out.get d2 hld
            replace s0 := cell_later HBr.out s0
            have hs0 : 0 ≤ zr[d2] := HPm.out _ (List.getElem_mem hld)
            have HST : Hid ((zr.take (d2 + 1)).all (fun s => decide ((g.terms.length : Int) ≤ s) || (g.rules.take m).any (fun x => Gr.has s x.2)) = ((zr.take d2).all (fun s => decide ((g.terms.length : Int) ≤ s) || (g.rules.take m).any (fun x => Gr.has s x.2)) && (decide ((g.terms.length : Int) ≤ zr[d2]) || (g.rules.take m).any (fun x => Gr.has zr[d2] x.2)))) := by
              show _ = _; rw [List.take_add_one, List.getElem?_eq_getElem hld, List.all_append]; simp
            have HCM : Hid (zr[d2] < (g.terms.length : Int) → Gr.cameB g.terms.length (Gr.rights (g.rules.take m)) zr[d2].toNat = (g.rules.take m).any (fun x => Gr.has zr[d2] x.2)) := fun h => Gr.came_has _ _ _ hs0 h
            generalize zr[d2] = sv at *
            generalize (zr.take d2).all (fun s => decide ((g.terms.length : Int) ≤ s) || (g.rules.take m).any (fun x => Gr.has s x.2)) = ab at *
            generalize (g.rules.take m).any (fun x => Gr.has sv x.2) = cb at *
            obtain ⟨ac, HAC⟩ : ∃ ac : Bool, Hid (ac = (lb && ab)) := ⟨_, rfl⟩
            rw [← HAC.out]
            clear j0 j1 j2 q0 q1 q2 e0 g1 g2
            cases ac
            · go_upto_region 25 with fail
              go_quiet (fail)
              go_wp2_with fail
              go_roundw
              case rel => exact ⟨d2 + 1, by omega, by go_num, by rw [HST.out, ← Bool.and_assoc, ← HAC.out]; rfl, hi2.out.drewN _⟩
              case measure => simp [intOf]; omega
            · by_cases hge : (g.terms.length : Int) ≤ sv
              · go_upto_region 25 with fail
                go_quiet (fail)
                go_wp2_with fail
                go_roundw
                case rel => exact ⟨d2 + 1, by omega, by go_num, by rw [HST.out, ← Bool.and_assoc, ← HAC.out, decide_eq_true hge]; rfl, hi2.out.drewN _⟩
                case measure => simp [intOf]; omega
              · obtain ⟨u, rfl⟩ : ∃ u : Nat, sv = (u : Int) := ⟨sv.toNat, by omega⟩
                have hul : u ≤ g.terms.length := by omega
                have hui : (u : Int) < (g.terms.length : Int) + 1 := by omega
                obtain ⟨f0, f1⟩ := hi2.out.cell u hul
                have hcm := HCM.out (by omega)
                rw [Int.toNat_natCast] at hcm
                rw [hcm] at f0
                have hgd : decide ((g.terms.length : Int) ≤ (u : Int)) = false := decide_eq_false hge
                clear hcm HCM
                go_upto_region 25 with fail
                go_quiet (fail)
                go_wp2_with fail
                go_roundw
                case rel => exact ⟨d2 + 1, by omega, by go_num, by rw [HST.out, ← Bool.and_assoc, ← HAC.out, hgd]; simp, hi2.out.drewN _⟩
                case measure => simp [intOf]; omega
          · have HZ : Hid (zr.take d2 = zr) := by show _ = _; rw [List.take_of_length_le (by omega)]
            rw [HZ.out, ← HLC.out]
            have hnd : ¬ (d2 : Int) < (zr.length : Int) := by omega
            have hg7 := HGI7.out.next HBr.out
            have hgm := HMORE.out
            have hm8 : ∀ x ∈ g.rules, x.2.length ≤ maxLen := fun x hx => by have := HM8.out x hx; unfold maxLen; omega
            have HGi : Hid (Calls Try.prog 12 #[.agg (gmCells ⟨g.terms, g.names ++ [⟨#[122, 122, 57]⟩], g.rules⟩ ⟨ta2, tc2, some ⟨gb, 0, none⟩, capb, ra2, rc2⟩)] wr fun e w' => e = .returned (.bool false) ∧ Below wr.heap.size wr w') := good_is false _ _ wr hm8 hg7 hgm
            clear hg7 hgm
            have HGj : Hid (∀ (b : Bool) (W' : World), Below V7.heap.size V7 W' → Gr.good ⟨g.terms, g.names, g.rules.take m⟩ = b → Calls Try.prog 12 #[.agg (gmCells ⟨g.terms, g.names, g.rules.take m⟩ ⟨ta3, tc3, na3, nc3, some ⟨rb3, ro3, none⟩, rc3⟩)] W' fun e w' => e = .returned (.bool b) ∧ Below W'.heap.size W' w') := fun b W' hW' hb => good_is b _ _ W' (fun x hx => hm8 x (List.mem_of_mem_take hx)) (HGJ.out.next hW') hb
            clear hm8
            simp only [gmCells, List.length_append, List.length_cons, List.length_nil, Nat.zero_add, HRL.out] at HGi HGj
            generalize Gr.lastCame g (g.rules.take m) (zl, zr) = L at *
            have HBw : Hid (Below w.heap.size w wr) := HBw7.out.trans (HBr.out.mono HBw7.out.size)
            clear e0 g0 g1 g2 hi2 HC LI
            cases L
            · have HJ : Hid (∀ (W' : World), Below V7.heap.size V7 W' → _) := fun W' hW' => HGj.out false W' hW' (by rw [HLESS.out]; rfl)
              clear HLESS HGj HLC
              go_wp2_with (go_at_call 12; fail)
              refine HGi.out.mono ?_
              rintro e w20 ⟨rfl, hb20⟩
              have HB20 : Hid (Below V7.heap.size V7 w20) := HBr.out.trans (hb20.mono HBr.out.size)
              replace j0 := cell_later hb20 j0
              replace j1 := cell_later hb20 j1
              replace j2 := cell_later hb20 j2
              go_wp2_with (go_at_call 12; fail)
              refine (HJ.out _ HB20.out).mono ?_
              rintro e w21 ⟨rfl, hb21⟩
              go_wp2_with (first | (go_at_call 9; refine (gwakes_any _).mono ?_; rintro e w22 ⟨rfl, hb22⟩))
              go_ret
              exact ⟨rfl, ((HBw.out.trans (hb20.mono HBw.out.size)).trans (hb21.mono (by have := HBw.out.size; have := hb20.size; omega))).trans (hb22.mono (by have := HBw.out.size; have := hb20.size; have := hb21.size; omega))⟩
            · by_cases hmp : 0 < m
              · have HJ : Hid (∀ (W' : World), Below V7.heap.size V7 W' → _) := fun W' hW' => HGj.out true W' hW' (by rw [HLESS.out]; simp [hmp])
                have hmq : (0 : Int) < (m : Int) := by omega
                clear HLESS HGj HLC hmp hm0
                go_wp2_with (go_at_call 12; fail)
                refine HGi.out.mono ?_
                rintro e w20 ⟨rfl, hb20⟩
                have HB20 : Hid (Below V7.heap.size V7 w20) := HBr.out.trans (hb20.mono HBr.out.size)
                replace j0 := cell_later hb20 j0
                replace j1 := cell_later hb20 j1
                replace j2 := cell_later hb20 j2
                go_wp2_with (go_at_call 12; fail)
                refine (HJ.out _ HB20.out).mono ?_
                rintro e w21 ⟨rfl, hb21⟩
                replace j2 := cell_later hb21 j2
                go_wp2_with (first | (go_at_call 9; refine (gwakes_any _).mono ?_; rintro e w22 ⟨rfl, hb22⟩))
                go_ret
                exact ⟨rfl, ((HBw.out.trans (hb20.mono HBw.out.size)).trans (hb21.mono (by have := HBw.out.size; have := hb20.size; omega))).trans (hb22.mono (by have := HBw.out.size; have := hb20.size; have := hb21.size; omega))⟩
              · have HJ : Hid (∀ (W' : World), Below V7.heap.size V7 W' → _) := fun W' hW' => HGj.out false W' hW' (by rw [HLESS.out]; simp [hmp])
                have hme : m = 0 := by omega
                clear HLESS HGj HLC hmp hm0
                subst hme
                go_wp2_with (go_at_call 12; fail)
                refine HGi.out.mono ?_
                rintro e w20 ⟨rfl, hb20⟩
                have HB20 : Hid (Below V7.heap.size V7 w20) := HBr.out.trans (hb20.mono HBr.out.size)
                replace j0 := cell_later hb20 j0
                replace j1 := cell_later hb20 j1
                replace j2 := cell_later hb20 j2
                go_wp2_with (go_at_call 12; fail)
                refine (HJ.out _ HB20.out).mono ?_
                rintro e w21 ⟨rfl, hb21⟩
                replace j2 := cell_later hb21 j2
                go_wp2_with (first | (go_at_call 9; refine (gwakes_any _).mono ?_; rintro e w22 ⟨rfl, hb22⟩))
                go_ret
                exact ⟨rfl, ((HBw.out.trans (hb20.mono HBw.out.size)).trans (hb21.mono (by have := HBw.out.size; have := hb20.size; omega))).trans (hb22.mono (by have := HBw.out.size; have := hb20.size; have := hb21.size; omega))⟩

theorem grammarSpoilt_walk (g : Gr.Gm) (A : GA) (n : Int) (w : World) (h : GmAt w.heap.size w g A) (hr : ∀ r ∈ g.rules, r.2.length ≤ maxLen ∧ rlWf r) (hn : (Lit.int .u8 n).wf = true) :
    Calls Try.prog 4 #[.agg (gmCells g A), .int .u8 n] w fun e w' => e = .returned (.bool true) ∧ Below w.heap.size w w' := by
  have hm : ∀ r ∈ g.rules, r.2.length ≤ maxLen := fun r h => (hr r h).1
  cases hl : Gr.large g
  · cases hg : Gr.good g
    · exact grammarSpoilt_out g A n w h hm (.inr (.inl ⟨hl, hg⟩))
    · by_cases h60 : 60 ≤ g.rules.length
      · exact grammarSpoilt_out g A n w h hm (.inr (.inr ⟨hl, hg, h60⟩))
      · obtain ⟨p1, p2, p3, p4, _⟩ := Gr.good_parts hg
        have hs := of_decide_eq_true p1
        have hn' : 0 ≤ n ∧ n < 256 := by
          have h0 : decide (IntKind.u8.min ≤ n) && decide (n ≤ IntKind.u8.max) := hn
          rw [Bool.and_eq_true, decide_eq_true_eq, decide_eq_true_eq, show IntKind.u8.min = 0 from rfl, show IntKind.u8.max = 255 from rfl] at h0
          omega
        refine grammarSpoilt_in g A n w h hn'.1 hn'.2 hl hg (by omega) (by omega) (by omega) (fits_right p4) (by omega) (by omega) (fun r hr s hs' => ?_)
        obtain ⟨k, hk, rfl⟩ := List.getElem_of_mem hr
        have := (Gr.each_get p4 k hk).1
        simp only [Gr.fits, Bool.and_eq_true, List.all_eq_true] at this
        have := this.2 s hs'
        rw [Bool.or_eq_true] at this
        rcases this with h | h
        · exact (of_decide_eq_true h).1
        · have := (of_decide_eq_true h).1; omega
  · exact grammarSpoilt_out g A n w h hm (.inl hl)
end Go.Proofs.Ytimjopaedfefmaa
