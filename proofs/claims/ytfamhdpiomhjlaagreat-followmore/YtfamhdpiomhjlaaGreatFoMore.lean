/-
  The law FollowMore, walked: it returns true, of every grammar, number and row of numbers.
-/
import Derived.Test.YtfamhdpiomhjlaaGreatFoMark
import Derived.Test.YtfamhdpiomhjlaaGreatRuleLib
import Derived.Test.YtfamhdpiomhjlaaGreatGrRefGood
namespace Go.Proofs.YtfamhdpiomhjlaaGreat
open Go.RowKit Go.Conc

theorem Fo.nowhere {g : Gr.Gm} (hg : Gr.good g = true) (k : Nat) (hk : k < g.names.length) (h : ∀ r ∈ g.rules, ((g.terms.length : Int) + (k : Int)) ∉ r.2) (v : Int) : v ∈ (Fo.setsG g).getD k [] ↔ k = 0 ∧ v = ((g.terms.length + g.names.length : Nat) : Int) := by
  have hocc : ∀ l rest, ¬ Fo.Occ g.terms.length g.rules l (k : Int) rest := fun l rest ⟨r, hr, j, hj, h1, _, h3, _⟩ => h r hr (by
    have e : r.2[j] = (g.terms.length : Int) + (k : Int) := by omega
    rw [← e]; exact List.getElem_mem hj)
  rw [Fo.setsG_mem hg k hk]
  constructor
  · intro q
    rcases q.cases' with q | ⟨a, ⟨rest, q, _⟩, _⟩
    · rcases q with ⟨q1, q2⟩ | ⟨l, rest, q, _⟩
      · exact ⟨by omega, q2⟩
      · exact absurd q (hocc l rest)
    · exact absurd q (hocc a rest)
  · rintro ⟨rfl, rfl⟩
    exact .base _ _ (.inl ⟨rfl, rfl⟩)
theorem Fo.nowhere_no {g : Gr.Gm} (hg : Gr.good g = true) (k : Nat) (hk : k < g.names.length) (h : ∀ r ∈ g.rules, ((g.terms.length : Int) + (k : Int)) ∉ r.2) (h0 : 0 < k) : (Fo.setsG g).getD k [] = [] :=
  List.eq_nil_iff_forall_not_mem.2 fun v hv => by have := (Fo.nowhere hg k hk h v).1 hv; omega
theorem Fo.nowhere_start {g : Gr.Gm} (hg : Gr.good g = true) (hk : 0 < g.names.length) (h : ∀ r ∈ g.rules, ((g.terms.length : Int) + ((0 : Nat) : Int)) ∉ r.2) : (Fo.setsG g).getD 0 [] = [((g.terms.length + g.names.length : Nat) : Int)] := by
  have hl : 0 < (Fo.setsG g).length := by rw [Fo.setsG_len hg]; exact hk
  have e : (Fo.setsG g).getD 0 [] = (Fo.setsG g)[0] := by simp [List.getD_eq_getElem?_getD, hl]
  refine Fi.rising_ext ?_ (by simp) fun v => ?_
  · rw [e]; exact Fo.setsG_sorted g _ (List.getElem_mem hl)
  · rw [Fo.nowhere hg 0 hk h v]; simp

set_option maxRecDepth 100000 in
set_option maxHeartbeats 3200000 in
theorem followMore_out (g : Gr.Gm) (A : GA) (n : Int) (ao : Option Addr) (c : Nat) (l : List Int) (w : World) (h : GmAt w.heap.size w g A) (hm : ∀ r ∈ g.rules, r.2.length ≤ maxLen) (hl : Gr.large g = true ∨ Gr.large g = false ∧ (Gr.good g = false ∨ Gr.good g = true ∧ (Fo.light g = false ∨ Fo.light g = true ∧ (8 < l.length ∨ l.length ≤ 8 ∧ 20 ≤ g.rules.length)))) :
    Calls Tryz.prog 6 #[.agg (gmCells g A), .int .u8 n, .slice ao l.length c] w fun e w' => e = .returned (.bool true) ∧ Below w.heap.size w w' := by
  obtain ⟨ta, tc, na, nc, ra, rc⟩ := A
  have hbW : Hid (Below w.heap.size w (w.alloc (Obj.cells #[.slice ta g.terms.length tc, .slice na g.names.length nc, .slice ra g.rules.length rc] 25))) := (Below.refl _ w).alloc (Nat.le_refl _) _
  have b0 : Hid ((w.alloc (Obj.cells #[.slice ta g.terms.length tc, .slice na g.names.length nc, .slice ra g.rules.length rc] 25)).heap[w.heap.size]? = some (.cells #[.slice ta g.terms.length tc, .slice na g.names.length nc, .slice ra g.rules.length rc] 25 (0, 0))) := heap_alloc_new w _
  have HLG : Hid (∀ (r : Bool) (W : World), Below w.heap.size w W → Gr.large g = r → Calls Tryz.prog 7 #[.agg (gmCells g ⟨ta, tc, na, nc, ra, rc⟩)] W fun e w' => e = .returned (.bool r) ∧ Below W.heap.size W w') := fun r W hW hl => large_is r g _ W hm (h.later hW).size hl
  have HGD : Hid (∀ (r : Bool) (W : World), Below w.heap.size w W → Gr.good g = r → Calls Tryz.prog 8 #[.agg (gmCells g ⟨ta, tc, na, nc, ra, rc⟩)] W fun e w' => e = .returned (.bool r) ∧ Below W.heap.size W w') := fun r W hW hr => refGood_any r g _ W hm (h.next hW) (by rw [Gr.refGood_is]; exact hr)
  have HSM : Hid (∀ (r : Bool) (W : World), Fo.light g = r → Calls Tryz.prog 15 #[.agg (gmCells g ⟨ta, tc, na, nc, ra, rc⟩)] W fun e w' => e = .returned (.bool r) ∧ Below W.heap.size W w') := fun r W hr => small9_is r g _ W hr
  simp only [gmCells] at HLG HGD HSM ⊢
  clear h hm
  rcases hl with hl | ⟨hl, ho⟩
  · have HL1 : Hid (∀ _ : Unit, _) := fun _ => HLG.out true _ hbW.out hl
    clear HLG hl HGD HSM
    go_enter Tryz.func6, Tryz.ntmps6
    go_wp2_with (first | (go_at_call 7; refine Calls.mono (HL1.out ()) ?_; rintro e w1 ⟨rfl, hb1⟩) | (go_at_call 16; refine Calls.mono (fowakes_any _) ?_; rintro e w3 ⟨rfl, hb3⟩))
    go_ret
    exact ⟨rfl, (hbW.out.trans (hb1.mono hbW.out.size)).trans (hb3.mono (hbW.out.trans (hb1.mono hbW.out.size)).size)⟩
  · have HL1 : Hid (∀ _ : Unit, _) := fun _ => HLG.out false _ hbW.out hl
    clear HLG hl
    rcases ho with hg | ⟨hg, h8⟩
    · have HG1 : Hid (∀ (W : World), Below w.heap.size w W → _) := fun W hW => HGD.out false W hW hg
      clear hg HGD HSM
      go_enter Tryz.func6, Tryz.ntmps6
      go_wp2_with (go_at_call 7; fail)
      generalize (w.alloc (Obj.cells #[.slice ta g.terms.length tc, .slice na g.names.length nc, .slice ra g.rules.length rc] 25)) = W at *
      refine Calls.mono (HL1.out ()) ?_
      rintro e w1 ⟨rfl, hb1⟩
      have HB1 : Hid (Below w.heap.size w w1) := hbW.out.trans (hb1.mono hbW.out.size)
      obtain ⟨g0, g1, g2, _⟩ := cells_three_z ((hb1.block _ (Array.getElem?_eq_some_iff.1 b0.out).1).trans b0.out)
      clear hb1 b0 hbW HL1
      go_wp2_with (go_at_call 8; fail)
      refine Calls.mono (HG1.out _ HB1.out) ?_
      rintro e w2 ⟨rfl, hb2⟩
      have HB2 : Hid (Below w.heap.size w w2) := HB1.out.trans (hb2.mono HB1.out.size)
      clear g0 g1 g2 hb2 HB1 HG1
      go_wp2_with (go_at_call 16; refine Calls.mono (fowakes_any _) ?_; rintro e w3 ⟨rfl, hb3⟩)
      go_ret
      exact ⟨rfl, HB2.out.trans (hb3.mono HB2.out.size)⟩
    · have HG1 : Hid (∀ (W : World), Below w.heap.size w W → _) := fun W hW => HGD.out true W hW hg
      clear hg HGD
      go_enter Tryz.func6, Tryz.ntmps6
      go_wp2_with (go_at_call 7; fail)
      generalize (w.alloc (Obj.cells #[.slice ta g.terms.length tc, .slice na g.names.length nc, .slice ra g.rules.length rc] 25)) = W at *
      refine Calls.mono (HL1.out ()) ?_
      rintro e w1 ⟨rfl, hb1⟩
      have HB1 : Hid (Below w.heap.size w w1) := hbW.out.trans (hb1.mono hbW.out.size)
      have b1 : Hid (w1.heap[w.heap.size]? = some (.cells #[.slice ta g.terms.length tc, .slice na g.names.length nc, .slice ra g.rules.length rc] 25 (0, 0))) := (hb1.block _ (Array.getElem?_eq_some_iff.1 b0.out).1).trans b0.out
      obtain ⟨g0, g1, g2, _⟩ := cells_three_z b1.out
      clear hb1 b0 hbW HL1
      go_wp2_with (go_at_call 8; fail)
      refine Calls.mono (HG1.out _ HB1.out) ?_
      rintro e w2 ⟨rfl, hb2⟩
      have HB2 : Hid (Below w.heap.size w w2) := HB1.out.trans (hb2.mono HB1.out.size)
      have b2 : Hid (w2.heap[w.heap.size]? = some (.cells #[.slice ta g.terms.length tc, .slice na g.names.length nc, .slice ra g.rules.length rc] 25 (0, 0))) := (hb2.block _ (Array.getElem?_eq_some_iff.1 b1.out).1).trans b1.out
      clear g0 g1 g2
      obtain ⟨g0, g1, g2, _⟩ := cells_three_z b2.out
      clear hb2 HB1 HG1 b1
      rcases h8 with hs | ⟨hs, h8⟩
      · have HS1 : Hid (∀ (W : World), _) := fun W => HSM.out false W hs
        clear hs HSM
        go_wp2_with (go_at_call 15; fail)
        refine Calls.mono (HS1.out _) ?_
        rintro e w4 ⟨rfl, hb4⟩
        have HB4 : Hid (Below w.heap.size w w4) := HB2.out.trans (hb4.mono HB2.out.size)
        clear g0 g1 g2 hb4 HB2 HS1 b2
        go_wp2_with (go_at_call 16; refine Calls.mono (fowakes_any _) ?_; rintro e w3 ⟨rfl, hb3⟩)
        go_ret
        exact ⟨rfl, HB4.out.trans (hb3.mono HB4.out.size)⟩
      · have HS1 : Hid (∀ (W : World), _) := fun W => HSM.out true W hs
        clear hs HSM
        go_wp2_with (go_at_call 15; fail)
        refine Calls.mono (HS1.out _) ?_
        rintro e w4 ⟨rfl, hb4⟩
        have HB4 : Hid (Below w.heap.size w w4) := HB2.out.trans (hb4.mono HB2.out.size)
        have b4 : Hid (w4.heap[w.heap.size]? = some (.cells #[.slice ta g.terms.length tc, .slice na g.names.length nc, .slice ra g.rules.length rc] 25 (0, 0))) := (hb4.block _ (Array.getElem?_eq_some_iff.1 b2.out).1).trans b2.out
        clear g0 g1 g2
        obtain ⟨g0, g1, g2, _⟩ := cells_three_z b4.out
        clear hb4 HB2 HS1 b2 b4
        rcases h8 with h8 | ⟨h8, h60⟩
        · have h8i : (8 : Int) < (l.length : Int) := by omega
          go_wp2_with (go_at_call 16; refine Calls.mono (fowakes_any _) ?_; rintro e w3 ⟨rfl, hb3⟩)
          go_ret
          exact ⟨rfl, HB4.out.trans (hb3.mono HB4.out.size)⟩
        · have h8i : ¬ (8 : Int) < (l.length : Int) := by omega
          have h60i : (20 : Int) ≤ (g.rules.length : Int) := by omega
          go_wp2_with (go_at_call 16; refine Calls.mono (fowakes_any _) ?_; rintro e w3 ⟨rfl, hb3⟩)
          go_ret
          exact ⟨rfl, HB4.out.trans (hb3.mono HB4.out.size)⟩

set_option maxRecDepth 100000 in
set_option maxHeartbeats 12800000 in
theorem followMore_in (g : Gr.Gm) (A : GA) (n : Int) (ao : Option Addr) (c : Nat) (l : List Int) (w : World) (h : GmAt w.heap.size w g A) (hm : ∀ r ∈ g.rules, r.2.length ≤ maxLen) (hl : Gr.large g = false) (hg : Gr.good g = true) (hll : l.length ≤ 8) (h60 : g.rules.length < 20) (hs9 : Fo.light g = true)
    (hn : 0 ≤ n ∧ n < 256) (hx : KindAt .u8 w.heap.size w ao l) (hx0 : ∀ x ∈ l, 0 ≤ x ∧ x < 256) :
    Calls Tryz.prog 6 #[.agg (gmCells g A), .int .u8 n, .slice ao l.length c] w fun e w' => e = .returned (.bool true) ∧ Below w.heap.size w w' := by
  obtain ⟨ta, tc, na, nc, ra, rc⟩ := A
  have HM : Hid _ := hm
  have HG : Hid (GmAt w.heap.size w g ⟨ta, tc, na, nc, ra, rc⟩) := h
  have HX : Hid (KindAt .u8 w.heap.size w ao l) := hx
  have HX0 : Hid _ := hx0
  obtain ⟨hsz, h8⟩ := Nl.sizes_of hg
  obtain ⟨l1, l2, l3, _, _, l4⟩ := Gr.large_no hl
  have H4 : Hid (∀ r ∈ g.rules, r.2.length ≤ 4000) := fun r hr => Nat.le_trans (h8 r hr) (by omega)
  have HGD0 : Hid (Gr.good g = true) := hg
  have hbW : Hid (Below w.heap.size w (w.alloc (Obj.cells #[.slice ta g.terms.length tc, .slice na g.names.length nc, .slice ra g.rules.length rc] 25))) := (Below.refl _ w).alloc (Nat.le_refl _) _
  have b0 : Hid ((w.alloc (Obj.cells #[.slice ta g.terms.length tc, .slice na g.names.length nc, .slice ra g.rules.length rc] 25)).heap[w.heap.size]? = some (.cells #[.slice ta g.terms.length tc, .slice na g.names.length nc, .slice ra g.rules.length rc] 25 (0, 0))) := heap_alloc_new w _
  have HL1 : Hid (∀ (W : World), Below w.heap.size w W → Calls Tryz.prog 7 #[.agg (gmCells g ⟨ta, tc, na, nc, ra, rc⟩)] W fun e w' => e = .returned (.bool false) ∧ Below W.heap.size W w') := fun W hW => large_is false g _ W hm (h.later hW).size hl
  have HGD : Hid (∀ (W : World), Below w.heap.size w W → Calls Tryz.prog 8 #[.agg (gmCells g ⟨ta, tc, na, nc, ra, rc⟩)] W fun e w' => e = .returned (.bool true) ∧ Below W.heap.size W w') := fun W hW => refGood_any true g _ W hm (h.next hW) (by rw [Gr.refGood_is]; exact hg)
  have HOW : Hid (∀ (W : World), Below w.heap.size w W → Calls Tryz.prog 17 #[.agg (gmCells g ⟨ta, tc, na, nc, ra, rc⟩)] W fun e w' => ∃ A', e = .returned (.agg (gmCells g A')) ∧ Hid (GmOwn W.heap.size w' g A') ∧ Hid (Below W.heap.size W w')) := fun W hW => (own_is g _ W l1 l2 (by omega) H4.out (h.later hW).size).mono fun e w' ⟨A', h1, h2, h3, _⟩ => ⟨A', h1, h2, h3⟩
  have HSM : Hid (∀ (W : World), Calls Tryz.prog 15 #[.agg (gmCells g ⟨ta, tc, na, nc, ra, rc⟩)] W fun e w' => e = .returned (.bool true) ∧ Below W.heap.size W w') := fun W => small9_is true g _ W hs9
  have h8i : ¬ (8 : Int) < (l.length : Int) := by omega
  have h60i : ¬ (20 : Int) ≤ (g.rules.length : Int) := by omega
  simp only [gmCells] at HL1 HGD HOW HSM ⊢
  clear h hm h8 hx hx0 l4 hg
  go_enter Tryz.func6, Tryz.ntmps6
  go_wp2_with (go_at_call 7; fail)
  generalize (w.alloc (Obj.cells #[.slice ta g.terms.length tc, .slice na g.names.length nc, .slice ra g.rules.length rc] 25)) = W at *
  refine Calls.mono (HL1.out _ hbW.out) ?_
  rintro e w1 ⟨rfl, hb1⟩
  have b1 : Hid _ := (hb1.block _ (Array.getElem?_eq_some_iff.1 b0.out).1).trans b0.out
  have HB1 : Hid (Below w.heap.size w w1) := hbW.out.trans (hb1.mono hbW.out.size)
  obtain ⟨g0, g1, g2, _⟩ := cells_three_z b1.out
  clear hb1 b0 hbW HL1
  go_wp2_with (go_at_call 8; fail)
  refine Calls.mono (HGD.out _ HB1.out) ?_
  rintro e w2 ⟨rfl, hb2⟩
  have kg2 : Hid (w2.heap[w.heap.size]? = some (.cells #[.slice ta g.terms.length tc, .slice na g.names.length nc, .slice ra g.rules.length rc] 25 (0, 0))) := (hb2.block _ (Array.getElem?_eq_some_iff.1 b1.out).1).trans b1.out
  have HB2 : Hid (Below w.heap.size w w2) := HB1.out.trans (hb2.mono HB1.out.size)
  clear g0 g1 g2 hb2 HB1 HGD b1
  obtain ⟨g0, g1, g2, _⟩ := cells_three_z kg2.out
  go_wp2_with (go_at_call 15; fail)
  refine Calls.mono (HSM.out _) ?_
  rintro e w3 ⟨rfl, hb3⟩
  have kg3 : Hid (w3.heap[w.heap.size]? = some (.cells #[.slice ta g.terms.length tc, .slice na g.names.length nc, .slice ra g.rules.length rc] 25 (0, 0))) := (hb3.block _ (Array.getElem?_eq_some_iff.1 kg2.out).1).trans kg2.out
  have HB3 : Hid (Below w.heap.size w w3) := HB2.out.trans (hb3.mono HB2.out.size)
  clear g0 g1 g2 hb3 HB2 HSM kg2
  obtain ⟨g0, g1, g2, _⟩ := cells_three_z kg3.out
  go_upto_region 3 with fail
  clear g0 g1 g2
  have HC0 : Hid (∀ w1 : World, Lat w3.drew w1 → w1.cell? ⟨w.heap.size, 0, none⟩ = some (.slice ta g.terms.length tc) ∧ w1.cell? ⟨w.heap.size, 1, none⟩ = some (.slice na g.names.length nc) ∧ w1.cell? ⟨w.heap.size, 2, none⟩ = some (.slice ra g.rules.length rc)) := fun w1 hL => by
    have h := cells_three_z ((hL.of_drew.block _ (Array.getElem?_eq_some_iff.1 kg3.out).1).trans kg3.out)
    exact ⟨h.1, h.2.1, h.2.2.1⟩
  have hw0 : IntKind.wrap .i64 ((g.terms.length : Int) + (g.names.length : Int)) = ((g.terms.length : Int) + (g.names.length : Int)) := by rw [IntKind.wrap_i64]; omega
  refine wp_region_lat [.val (.pointer (some ⟨w.heap.size, 0, none⟩)), .val (.slice ta g.terms.length tc), .val (.int .i64 g.terms.length), .val (.pointer (some ⟨w.heap.size, 1, none⟩)), .val (.slice na g.names.length nc), .val (.int .i64 g.names.length), .val (.int .i64 ((g.terms.length : Int) + (g.names.length : Int))), .val (.pointer (some ⟨w.heap.size, 0, none⟩)), .val (.slice ta g.terms.length tc), .val (.int .i64 g.terms.length), .val (.int .i64 ((g.terms.length : Int) + (g.names.length : Int))), .val (.int .i64 g.terms.length)] [] (by kernel_rfl) (by kernel_rfl) rfl ?kept0 ?walk0
  case kept0 => exact trivial
  case walk0 =>
  refine wpFacts_val (by rfl) (fun w1 hL hd K hK => ?_) ?_
  · go_simp
    exact hK _ (Lat.refl _)
  refine wpFacts_norm (by simp only [Act.put, List.setIfInBounds_toArray, List.set_cons_zero, List.set_cons_succ]; rfl) (by simp only [List.nil_append]; rfl) ?_
  refine wpFacts_val (by rfl) (fun w1 hL hd K hK => ?_) ?_
  · obtain ⟨d0, d1, d2⟩ := HC0.out w1 hL
    go_simp
    exact hK _ (Lat.refl _)
  refine wpFacts_norm (by simp only [Act.put, List.setIfInBounds_toArray, List.set_cons_zero, List.set_cons_succ]; rfl) (by simp only [List.cons_append, List.nil_append]; rfl) ?_
  refine wpFacts_val (by rfl) (fun w1 hL hd K hK => ?_) ?_
  · go_simp
    exact hK _ (Lat.refl _)
  refine wpFacts_norm (by simp only [Act.put, List.setIfInBounds_toArray, List.set_cons_zero, List.set_cons_succ]; rfl) (by simp only [List.cons_append, List.nil_append]; rfl) ?_
  refine wpFacts_val (by rfl) (fun w1 hL hd K hK => ?_) ?_
  · go_simp
    exact hK _ (Lat.refl _)
  refine wpFacts_norm (by simp only [Act.put, List.setIfInBounds_toArray, List.set_cons_zero, List.set_cons_succ]; rfl) (by simp only [List.cons_append, List.nil_append]; rfl) ?_
  refine wpFacts_val (by rfl) (fun w1 hL hd K hK => ?_) ?_
  · obtain ⟨d0, d1, d2⟩ := HC0.out w1 hL
    go_simp
    exact hK _ (Lat.refl _)
  refine wpFacts_norm (by simp only [Act.put, List.setIfInBounds_toArray, List.set_cons_zero, List.set_cons_succ]; rfl) (by simp only [List.cons_append, List.nil_append]; rfl) ?_
  refine wpFacts_val (by rfl) (fun w1 hL hd K hK => ?_) ?_
  · go_simp
    exact hK _ (Lat.refl _)
  refine wpFacts_norm (by simp only [Act.put, List.setIfInBounds_toArray, List.set_cons_zero, List.set_cons_succ]; rfl) (by simp only [List.cons_append, List.nil_append]; rfl) ?_
  refine wpFacts_val (by rfl) (fun w1 hL hd K hK => ?_) ?_
  · go_simp
    exact hK _ (Lat.refl _)
  refine wpFacts_norm (by simp only [Act.put, List.setIfInBounds_toArray, List.set_cons_zero, List.set_cons_succ]; rfl) (by simp only [List.cons_append, List.nil_append]; rfl) ?_
  refine wpFacts_val (by rfl) (fun w1 hL hd K hK => ?_) ?_
  · go_simp
    exact hK _ (Lat.refl _)
  refine wpFacts_norm (by simp only [Act.put, List.setIfInBounds_toArray, List.set_cons_zero, List.set_cons_succ]; rfl) (by simp only [List.cons_append, List.nil_append]; rfl) ?_
  refine wpFacts_val (by rfl) (fun w1 hL hd K hK => ?_) ?_
  · obtain ⟨d0, d1, d2⟩ := HC0.out w1 hL
    go_simp
    exact hK _ (Lat.refl _)
  refine wpFacts_norm (by simp only [Act.put, List.setIfInBounds_toArray, List.set_cons_zero, List.set_cons_succ]; rfl) (by simp only [List.cons_append, List.nil_append]; rfl) ?_
  refine wpFacts_val (by rfl) (fun w1 hL hd K hK => ?_) ?_
  · go_simp
    exact hK _ (Lat.refl _)
  refine wpFacts_norm (by simp only [Act.put, List.setIfInBounds_toArray, List.set_cons_zero, List.set_cons_succ]; rfl) (by simp only [List.cons_append, List.nil_append]; rfl) ?_
  refine wpFacts_val (by rfl) (fun w1 hL hd K hK => ?_) ?_
  · go_simp
    exact hK _ (Lat.refl _)
  refine wpFacts_norm (by simp only [Act.put, List.setIfInBounds_toArray, List.set_cons_zero, List.set_cons_succ]; rfl) (by simp only [List.cons_append, List.nil_append]; rfl) ?_
  refine wpFacts_val (by rfl) (fun w1 hL hd K hK => ?_) ?_
  · go_simp
    exact hK _ (Lat.refl _)
  refine wpFacts_norm (by simp only [Act.put, List.setIfInBounds_toArray, List.set_cons_zero, List.set_cons_succ]; rfl) (by simp only [List.cons_append, List.nil_append]; rfl) ?_
  intro WO hL0 ha0
  clear ha0 HC0
  have kO : Hid (WO.heap[w.heap.size]? = some (.cells #[.slice ta g.terms.length tc, .slice na g.names.length nc, .slice ra g.rules.length rc] 25 (0, 0))) := (hL0.of_drew.block _ (Array.getElem?_eq_some_iff.1 kg3.out).1).trans kg3.out
  have HBO : Hid (Below w.heap.size w WO) := HB3.out.trans (Below.mono hL0.of_drew HB3.out.size)
  clear hL0 kg3 HB3 hw0
  obtain ⟨g0, g1, g2, _⟩ := cells_three_z kO.out
  go_wp2_with (go_at_call 17; fail)
  refine Calls.mono (HOW.out _ HBO.out) ?_
  rintro e w5 ⟨⟨ta2, tc2, na2, nc2, ra2, rc2⟩, rfl, ho5, hb5⟩
  have U6 : Hid (Below WO.heap.size WO (w5.alloc (Obj.cells #[.slice ta2 g.terms.length tc2, .slice na2 g.names.length nc2, .slice ra2 g.rules.length rc2] 25)) ∧ (w5.alloc (Obj.cells #[.slice ta2 g.terms.length tc2, .slice na2 g.names.length nc2, .slice ra2 g.rules.length rc2] 25)).heap[w5.heap.size]? = some (.cells #[.slice ta2 g.terms.length tc2, .slice na2 g.names.length nc2, .slice ra2 g.rules.length rc2] 25 (0, 0)) ∧ GmOwn WO.heap.size (w5.alloc (Obj.cells #[.slice ta2 g.terms.length tc2, .slice na2 g.names.length nc2, .slice ra2 g.rules.length rc2] 25)) g ⟨ta2, tc2, na2, nc2, ra2, rc2⟩) := by
    have hb6 : Below w5.heap.size w5 (w5.alloc (Obj.cells #[.slice ta2 g.terms.length tc2, .slice na2 g.names.length nc2, .slice ra2 g.rules.length rc2] 25)) := (Below.refl _ w5).alloc (Nat.le_refl _) _
    exact ⟨hb5.out.trans (hb6.mono hb5.out.size), heap_alloc_new w5 _, ho5.out.below hb6⟩
  have hz5 : WO.heap.size ≤ w5.heap.size := hb5.out.size
  clear ho5 hb5 HOW g0 g1 g2
  go_upto_region 5 with fail
  generalize (w5.alloc (Obj.cells #[.slice ta2 g.terms.length tc2, .slice na2 g.names.length nc2, .slice ra2 g.rules.length rc2] 25)) = W6 at *
  generalize w5.heap.size = B12 at *
  have k6 : Hid (W6.heap[w.heap.size]? = some (.cells #[.slice ta g.terms.length tc, .slice na g.names.length nc, .slice ra g.rules.length rc] 25 (0, 0))) := (U6.out.1.block _ (Array.getElem?_eq_some_iff.1 kO.out).1).trans kO.out
  have HC : Hid (∀ w1 : World, Lat W6.drew w1 → w1.cell? ⟨w.heap.size, 0, none⟩ = some (.slice ta g.terms.length tc) ∧ w1.cell? ⟨w.heap.size, 1, none⟩ = some (.slice na g.names.length nc) ∧ w1.cell? ⟨w.heap.size, 2, none⟩ = some (.slice ra g.rules.length rc)) := fun w1 hL => by
    have h := cells_three_z ((hL.of_drew.block _ (Array.getElem?_eq_some_iff.1 k6.out).1).trans k6.out)
    exact ⟨h.1, h.2.1, h.2.2.1⟩
  obtain ⟨mm, hmm, hml⟩ : ∃ mm : Nat, n % (g.names.length : Int) = (mm : Int) ∧ mm < g.names.length := ⟨(n % (g.names.length : Int)).toNat, by have := Int.emod_nonneg n (b := (g.names.length : Int)) (by omega); omega, by have := Int.emod_lt_of_pos n (b := (g.names.length : Int)) (by omega); have := Int.emod_nonneg n (b := (g.names.length : Int)) (by omega); omega⟩
  have htm : n.tmod (g.names.length : Int) = (mm : Int) := by rw [Int.tmod_eq_emod_of_nonneg hn.1]; exact hmm
  have hnz : ¬ g.names = [] := fun e => by rw [e] at hml; simp at hml
  have hwn : IntKind.wrap .i64 n = n := by rw [IntKind.wrap_i64]; omega
  have hwm : IntKind.wrap .i64 (mm : Int) = (mm : Int) := by rw [IntKind.wrap_i64]; omega
  have hwa : IntKind.wrap .i64 ((g.terms.length : Int) + (mm : Int)) = (g.terms.length : Int) + (mm : Int) := by rw [IntKind.wrap_i64]; omega
  have hbn : Below W6.heap.size W6 (W6.alloc (Obj.cells #[.int .i64 ((g.terms.length : Int) + (mm : Int)), .slice none 0 0] 34)) := (Below.refl _ W6).alloc (Nat.le_refl _) _
  have D0 : Hid (DInv W6 (W6.alloc (Obj.cells #[.int .i64 ((g.terms.length : Int) + (mm : Int)), .slice none 0 0] 34)) W6.heap.size ((g.terms.length : Int) + (mm : Int)) (.slice none 0 0) []) :=
    ⟨hbn, ⟨Nat.le_refl _, by simp⟩, heap_alloc_new W6 _, World.ownsRow_nil _ _ _ _⟩
  obtain ⟨g0, g1, g2, _⟩ := cells_three_z k6.out
  have hgz6 := (Array.getElem?_eq_some_iff.1 k6.out).1
  go_upto_region 6 with fail
  generalize (W6.alloc (Obj.cells #[.int .i64 ((g.terms.length : Int) + (mm : Int)), .slice none 0 0] 34)) = W7 at *
  obtain ⟨b, hbe⟩ : ∃ b, W6.heap.size = b := ⟨_, rfl⟩
  rw [hbe] at D0
  simp only [hbe]
  clear g0 g1 g2 hgz6 hbn HC htm hnz hwn hwm hwa hbe
  · skip
    go_wp2_with fail
    have nn : Hid (0 < g.terms.length + g.names.length) := by show 0 < _; omega
    go_loopw [11] (fun iv wr => ∃ (k : Nat) (xo : Option Addr) (xc : Nat), k ≤ l.length ∧ iv = .int .i64 k ∧ Hid (DInv W6 wr b ((g.terms.length : Int) + (mm : Int)) (.slice xo k xc) ((l.take k).map (fun z => z % ((g.terms.length : Int) + (g.names.length : Int)))))) (fun iv _ => l.length - (intOf iv).toNat)
    case atStart => exact ⟨0, none, 0, Nat.zero_le _, rfl, D0⟩
    case round =>
      obtain ⟨k, xo, xc, hk, rfl, hD⟩ := hrel
      clear D0
      have HBw : Hid (Below w.heap.size w wr) := HBO.out.trans ((U6.out.1.trans (hD.out.below.mono U6.out.1.size)).mono HBO.out.size)
      have HQ : Hid (((l.take k).map (fun z => z % ((g.terms.length : Int) + (g.names.length : Int)))).length = k) := by show _ = _; rw [List.length_map, List.length_take]; omega
      by_cases hkl : k < l.length
      · have hki : (k : Int) < (l.length : Int) := by omega
        obtain ⟨lb, lo, hao, _, _, lc⟩ := HX.out k (by simpa using hkl)
        subst hao
        rw [List.getElem_map] at lc
        have hz := HX0.out _ (List.getElem_mem hkl)
        have HK : Hid ((l.take (k + 1)).map (fun z => z % ((g.terms.length : Int) + (g.names.length : Int))) = (l.take k).map (fun z => z % ((g.terms.length : Int) + (g.names.length : Int))) ++ [l[k] % ((g.terms.length : Int) + (g.names.length : Int))]) := by show _ = _; rw [List.take_add_one, List.getElem?_eq_getElem hkl, List.map_append]; rfl
        generalize l[k] = z at *
        generalize (l.take k).map (fun z => z % ((g.terms.length : Int) + (g.names.length : Int))) = done at *
        obtain ⟨md, hmd, hmdl⟩ : ∃ md : Nat, z % ((g.terms.length : Int) + (g.names.length : Int)) = (md : Int) ∧ md < g.terms.length + g.names.length := ⟨(z % ((g.terms.length : Int) + (g.names.length : Int))).toNat, by have := Int.emod_nonneg z (b := (g.terms.length : Int) + (g.names.length : Int)) (by omega); omega, by have := Int.emod_lt_of_pos z (b := (g.terms.length : Int) + (g.names.length : Int)) (by omega); have := Int.emod_nonneg z (b := (g.terms.length : Int) + (g.names.length : Int)) (by omega); omega⟩
        rw [hmd] at HK
        have htm : z.tmod ((g.terms.length : Int) + (g.names.length : Int)) = (md : Int) := by rw [Int.tmod_eq_emod_of_nonneg hz.1]; exact hmd
        have hnz : ¬ (g.terms.length : Int) + (g.names.length : Int) = 0 := by omega
        have hwz : IntKind.wrap .i64 z = z := by rw [IntKind.wrap_i64]; omega
        have hwd : IntKind.wrap .i64 (md : Int) = (md : Int) := by rw [IntKind.wrap_i64]; omega
        have HC : Hid (∀ w1 : World, Lat wr.drew w1 → w1.cell? ⟨b, 1, none⟩ = some (.slice xo k xc) ∧ w1.cell? ⟨lb, lo + k, none⟩ = some (.int .u8 z)) := fun w1 hL =>
          ⟨cell_later hL.of_drew (cells_two_z hD.out.xb).2.1, cell_later hL.of_drew (cell_later HBw.out lc)⟩
        clear lc
        go_upto_region 9 with fail
        refine wp_region_lat [.val (.pointer (some ⟨b, 1, none⟩)), .val (.slice xo k xc), .val (.slice (some ⟨lb, lo, none⟩) l.length c), .val (.int .i64 k), .val (.pointer (some ⟨lb, lo + k, none⟩)), .val (.int .u8 z), .val (.int .i64 z), .val (.int .i64 ((g.terms.length : Int) + (g.names.length : Int))), .val (.int .i64 (md : Int)), .fact (fun v w' => ∃ d, v = .slice (some ⟨d, 0, none⟩) 1 1 ∧ wr.heap.size ≤ d ∧ w'.heap[d]? = some (.cells #[.int .i64 (md : Int)] 3 (0, 0)))] [_, _, _] (by kernel_rfl) (by kernel_rfl) rfl ?kept ?walk
        case kept => exact ⟨fun v w1 w2 hL ⟨d, e, h1, h2⟩ => ⟨d, e, h1, by rw [hL.block _ (Array.getElem?_eq_some_iff.1 h2).1]; exact h2⟩, trivial⟩
        case walk =>
          refine wpFacts_val (by rfl) (fun w1 hL hd K hK => ?_) ?_
          · go_simp
            exact hK _ (Lat.refl _)
          refine wpFacts_norm (by simp only [Act.put, List.setIfInBounds_toArray, List.set_cons_zero, List.set_cons_succ]; rfl) (by simp only [List.nil_append]; rfl) ?_
          refine wpFacts_val (by rfl) (fun w1 hL hd K hK => ?_) ?_
          · obtain ⟨d0, d1⟩ := HC.out w1 hL
            go_simp
            exact hK _ (Lat.refl _)
          refine wpFacts_norm (by simp only [Act.put, List.setIfInBounds_toArray, List.set_cons_zero, List.set_cons_succ]; rfl) (by simp only [List.cons_append, List.nil_append]; rfl) ?_
          refine wpFacts_val (by rfl) (fun w1 hL hd K hK => ?_) ?_
          · go_simp
            exact hK _ (Lat.refl _)
          refine wpFacts_norm (by simp only [Act.put, List.setIfInBounds_toArray, List.set_cons_zero, List.set_cons_succ]; rfl) (by simp only [List.cons_append, List.nil_append]; rfl) ?_
          refine wpFacts_val (by rfl) (fun w1 hL hd K hK => ?_) ?_
          · go_simp
            exact hK _ (Lat.refl _)
          refine wpFacts_norm (by simp only [Act.put, List.setIfInBounds_toArray, List.set_cons_zero, List.set_cons_succ]; rfl) (by simp only [List.cons_append, List.nil_append]; rfl) ?_
          refine wpFacts_val (by rfl) (fun w1 hL hd K hK => ?_) ?_
          · go_simp
            exact hK _ (Lat.refl _)
          refine wpFacts_norm (by simp only [Act.put, List.setIfInBounds_toArray, List.set_cons_zero, List.set_cons_succ]; rfl) (by simp only [List.cons_append, List.nil_append]; rfl) ?_
          refine wpFacts_val (by rfl) (fun w1 hL hd K hK => ?_) ?_
          · obtain ⟨d0, d1⟩ := HC.out w1 hL
            go_simp
            exact hK _ (Lat.refl _)
          refine wpFacts_norm (by simp only [Act.put, List.setIfInBounds_toArray, List.set_cons_zero, List.set_cons_succ]; rfl) (by simp only [List.cons_append, List.nil_append]; rfl) ?_
          refine wpFacts_val (by rfl) (fun w1 hL hd K hK => ?_) ?_
          · go_simp
            exact hK _ (Lat.refl _)
          refine wpFacts_norm (by simp only [Act.put, List.setIfInBounds_toArray, List.set_cons_zero, List.set_cons_succ]; rfl) (by simp only [List.cons_append, List.nil_append]; rfl) ?_
          refine wpFacts_val (by rfl) (fun w1 hL hd K hK => ?_) ?_
          · go_simp
            exact hK _ (Lat.refl _)
          refine wpFacts_norm (by simp only [Act.put, List.setIfInBounds_toArray, List.set_cons_zero, List.set_cons_succ]; rfl) (by simp only [List.cons_append, List.nil_append]; rfl) ?_
          refine wpFacts_val (by rfl) (fun w1 hL hd K hK => ?_) ?_
          · go_simp
            exact hK _ (Lat.refl _)
          refine wpFacts_norm (by simp only [Act.put, List.setIfInBounds_toArray, List.set_cons_zero, List.set_cons_succ]; rfl) (by simp only [List.cons_append, List.nil_append]; rfl) ?_
          refine wpFacts_fact (by rfl) (fun w1 hL hd K hK => ?_) (fun v9 => ?_)
          · go_simp
            exact hK _ _ (Below.alloc (Below.refl _ _) (Nat.le_refl _) _) ⟨_, rfl, hL.of_drew.size, heap_alloc_new _ _⟩
          refine wpFacts_norm (by simp only [Act.put, List.setIfInBounds_toArray, List.set_cons_zero, List.set_cons_succ]; rfl) (by simp only [List.cons_append, List.nil_append]; rfl) ?_
          intro w1 hL ha
          obtain ⟨d, rfl, hd1, hd2⟩ : ∃ d, v9 = .slice (some ⟨d, 0, none⟩) 1 1 ∧ wr.heap.size ≤ d ∧ w1.heap[d]? = some (.cells #[.int .i64 (md : Int)] 3 (0, 0)) := allHold_get 9 ha rfl rfl
          clear ha
          have hD1 : Hid _ := hD.out.later hL.of_drew
          have hs1 := hD1.out.below.size
          have hdc : w1.cell? ⟨d, 0, none⟩ = some (.int .i64 (md : Int)) := by simp [World.cell?, hd2]
          refine wpList_append_oint rfl (.tmp 69) (.tmp 77) rfl W6.heap.size (.slice xo k xc) done rfl hD1.out.ov d 1 (md : Int) rfl hdc (by rw [HQ.out]; omega) hs1 ?_
          intro ga cap w2 ho2 hg2
          rw [HQ.out] at ho2 ⊢
          rw [← HK.out] at ho2
          have hD2 : Hid _ := hD1.out.push hg2 ho2
          obtain ⟨e0, e1, ez0, ez1⟩ := cells_two_z ((hg2.block b hD1.out.lt.2 (fun e => hD1.out.ne e.symm)).trans hD1.out.xb)
          have hb2 : b < w2.heap.size := Nat.lt_of_lt_of_le hD1.out.lt.2 hg2.size
          clear hd1 hd2 hdc ho2 hg2 hD1 hL HC hD htm hnz hwz hwd
          go_wp2_with fail
          go_roundw
          case rel => exact ⟨k + 1, some ⟨ga, 0, none⟩, cap, by omega, by go_num, hD2⟩
          case measure => simp [intOf]; omega
      · have hki : ¬ (k : Int) < (l.length : Int) := by omega
        have ho9 : Hid (GmOwn WO.heap.size (wr.alloc (Obj.cells #[.int .i64 ((g.terms.length : Int) + (mm : Int)), .slice xo k xc] 34)) g ⟨ta2, tc2, na2, nc2, ra2, rc2⟩) := (U6.out.2.2.below hD.out.below).below ((Below.refl _ wr).alloc (Nat.le_refl _) _)
        have hxl : Hid (((l.take k).map (fun z => z % ((g.terms.length : Int) + (g.names.length : Int)))).length ≤ 8) := by show _ ≤ _; rw [HQ.out]; omega
        have kB : Hid (wr.heap[B12]? = some (.cells #[.slice ta2 g.terms.length tc2, .slice na2 g.names.length nc2, .slice ra2 g.rules.length rc2] 25 (0, 0))) := (hD.out.below.block _ (Array.getElem?_eq_some_iff.1 U6.out.2.1).1).trans U6.out.2.1
        have hzW : WO.heap.size ≤ W6.heap.size := U6.out.1.size
        go_upto_region 10 with fail
        generalize (l.take k).map (fun z => z % ((g.terms.length : Int) + (g.names.length : Int))) = xr at *
        obtain rfl : k = xr.length := HQ.out.symm
        have hsw := hD.out.below.size
        obtain ⟨h0, h1, h2, _⟩ := cells_three_z kB.out
        obtain ⟨x0, x1, _⟩ := cells_two_z hD.out.xb
        have hbl := hD.out.lt.2
        have hBl := (Array.getElem?_eq_some_iff.1 kB.out).1
        have hoI : Hid (OwnInts WO.heap.size (wr.alloc (Obj.cells #[.int .i64 ((g.terms.length : Int) + (mm : Int)), .slice xo xr.length xc] 34)) (.slice xo xr.length xc) xr) := ownsRow_from (ownsRow_below hD.out.ov ((Below.refl _ wr).alloc (Nat.le_refl _) _)) hzW
        have hBV : Hid ((wr.alloc (Obj.cells #[.int .i64 ((g.terms.length : Int) + (mm : Int)), .slice xo xr.length xc] 34)).heap[B12]? = some (.cells #[.slice ta2 g.terms.length tc2, .slice na2 g.names.length nc2, .slice ra2 g.rules.length rc2] 25 (0, 0))) := (Below.heap_alloc _ _ _ hBl).trans kB.out
        have HBV : Hid (Below WO.heap.size WO (wr.alloc (Obj.cells #[.int .i64 ((g.terms.length : Int) + (mm : Int)), .slice xo xr.length xc] 34))) := (U6.out.1.trans (hD.out.below.mono hzW)).alloc (by omega) _
        iterate 13 go_step
        refine wpList_append_rl rfl (.tmp 81) (.tmp 83) rfl WO.heap.size (.slice ra2 g.rules.length rc2) g.rules rfl ho9.out.rules wr.heap.size 1 (((g.terms.length : Int) + (mm : Int)), xr) xo xc rfl (by simp [go_sem]) (by simp [go_sem]) hoI.out (by omega) (by simp; omega) ?_
        intro ga cap w8 ho8 hg8
        have HB8 : Hid (Below WO.heap.size WO w8) := HBV.out.grown hg8 HBV.out.size (fun q hq => by
          obtain ⟨ps, _, hps, _⟩ := ho9.out.rules
          exact (World.ownsRow.lt hps q hq).1)
        obtain ⟨k8, ho10⟩ := rules_push ho9.out hBV.out hg8 ho8 (.slice (some ⟨ga, 0, none⟩) (g.rules.length + 1) cap)
        obtain ⟨e0, e1, e2, z0, z1, z2⟩ := cells_three_z k8
        have HO10 : Hid _ := ho10
        have k10 : Hid _ := gset1 (z := .slice (some ⟨ga, 0, none⟩) (g.rules.length + 1) cap) k8
        have HB10 : Hid (Below WO.heap.size WO (w8.setCell ⟨B12, 2, none⟩ (.slice (some ⟨ga, 0, none⟩) (g.rules.length + 1) cap))) := HB8.out.setCell (by show WO.heap.size ≤ B12; exact hz5) _
        have hB8l := (Array.getElem?_eq_some_iff.1 k8).1
        clear ho8 hg8 ho10 k8 HB8 hBV HBV hoI ho9 kB h0 h1 h2 x0 x1 hD HBw
        go_upto_region 11 with fail
        generalize (w8.setCell ⟨B12, 2, none⟩ (.slice (some ⟨ga, 0, none⟩) (g.rules.length + 1) cap)) = W10 at *
        clear e0 e1 e2 z0 z1 z2 hB8l
        have HBw : Hid (Below w.heap.size w W10) := HBO.out.trans (HB10.out.mono HBO.out.size)
        have kG10 : Hid (W10.heap[w.heap.size]? = some (.cells #[.slice ta g.terms.length tc, .slice na g.names.length nc, .slice ra g.rules.length rc] 25 (0, 0))) := (HB10.out.block _ (Array.getElem?_eq_some_iff.1 kO.out).1).trans kO.out
        have hmh : ∀ r ∈ (⟨g.terms, g.names, g.rules ++ [(((g.terms.length : Int) + (mm : Int)), xr)]⟩ : Gr.Gm).rules, r.2.length ≤ maxLen := fun r hr => by
          rcases List.mem_append.1 hr with hr | hr
          · exact HM.out r hr
          · rw [List.mem_singleton] at hr
            subst hr
            exact Nat.le_trans hxl.out (by unfold maxLen; omega)
        have HGH : Hid (∀ (r : Bool) (W : World), Below W10.heap.size W10 W → Gr.good ⟨g.terms, g.names, g.rules ++ [(((g.terms.length : Int) + (mm : Int)), xr)]⟩ = r → Calls Tryz.prog 8 #[.agg (gmCells ⟨g.terms, g.names, g.rules ++ [(((g.terms.length : Int) + (mm : Int)), xr)]⟩ ⟨ta2, tc2, na2, nc2, some ⟨ga, 0, none⟩, cap⟩)] W fun e w' => e = .returned (.bool r) ∧ Below W.heap.size W w') := fun r W hW hr => refGood_any r _ _ W hmh (HO10.out.at.next hW) (by rw [Gr.refGood_is]; exact hr)
        simp only [gmCells, List.length_append, List.length_singleton] at HGH
        obtain ⟨h0, h1, h2, _⟩ := cells_three_z k10.out
        cases hgh : Gr.good ⟨g.terms, g.names, g.rules ++ [(((g.terms.length : Int) + (mm : Int)), xr)]⟩
        · have HC1 : Hid _ := HGH.out false W10 (Below.refl _ _) hgh
          clear HGH hgh hmh
          go_wp2_with (first | (go_at_call 8; refine Calls.mono HC1.out ?_; rintro e w11 ⟨rfl, hb11⟩) | (go_at_call 16; refine Calls.mono (fowakes_any _) ?_; rintro e w12 ⟨rfl, hb12⟩))
          go_ret
          have q := HBw.out.trans (hb11.mono HBw.out.size)
          exact ⟨rfl, q.trans (hb12.mono q.size)⟩
        · have HC1 : Hid _ := HGH.out true W10 (Below.refl _ _) hgh
          clear HGH
          go_wp2_with (go_at_call 8; fail)
          refine Calls.mono HC1.out ?_
          rintro e w11 ⟨rfl, hb11⟩
          have k11 : Hid (w11.heap[B12]? = some (.cells #[.slice ta2 g.terms.length tc2, .slice na2 g.names.length nc2, .slice (some ⟨ga, 0, none⟩) (g.rules.length + 1) cap] 25 (0, 0))) := (hb11.block _ (Array.getElem?_eq_some_iff.1 k10.out).1).trans k10.out
          have kG11 : Hid (w11.heap[w.heap.size]? = some (.cells #[.slice ta g.terms.length tc, .slice na g.names.length nc, .slice ra g.rules.length rc] 25 (0, 0))) := (hb11.block _ (Array.getElem?_eq_some_iff.1 kG10.out).1).trans kG10.out
          have HO11 : Hid (GmOwn WO.heap.size w11 ⟨g.terms, g.names, g.rules ++ [(((g.terms.length : Int) + (mm : Int)), xr)]⟩ ⟨ta2, tc2, na2, nc2, some ⟨ga, 0, none⟩, cap⟩) := HO10.out.below hb11
          have HB11 : Hid (Below w.heap.size w w11) := HBw.out.trans (hb11.mono HBw.out.size)
          have HHM : Hid _ := hmh
          clear h0 h1 h2 hb11 HC1 k10 kG10 HO10 HBw HB10 hmh U6 k6 kO HBO
          have hgl : (Fo.setsG g).length = g.names.length := Fo.setsG_len HGD0.out
          have hhl : (Fo.setsG ⟨g.terms, g.names, g.rules ++ [(((g.terms.length : Int) + (mm : Int)), xr)]⟩).length = g.names.length := Fo.setsG_len hgh
          have RG : Hid (∀ (W : World), Below w11.heap.size w11 W → Calls Tryz.prog 18 #[.agg (gmCells g ⟨ta, tc, na, nc, ra, rc⟩)] W fun e w' => ∃ xo xc, e = .returned (.slice xo g.names.length xc) ∧ Hid (LisAt w'.heap.size w' xo (Fo.setsG g)) ∧ Hid (Below W.heap.size W w')) := fun W hW => by
            have := fosets_is g ⟨ta, tc, na, nc, ra, rc⟩ W HM.out (HG.out.next (HB11.out.trans (hW.mono HB11.out.size)))
            rw [hgl] at this; exact this
          have RH : Hid (∀ (W : World), Below w11.heap.size w11 W → Calls Tryz.prog 18 #[.agg (gmCells ⟨g.terms, g.names, g.rules ++ [(((g.terms.length : Int) + (mm : Int)), xr)]⟩ ⟨ta2, tc2, na2, nc2, some ⟨ga, 0, none⟩, cap⟩)] W fun e w' => ∃ xo xc, e = .returned (.slice xo g.names.length xc) ∧ Hid (LisAt w'.heap.size w' xo (Fo.setsG ⟨g.terms, g.names, g.rules ++ [(((g.terms.length : Int) + (mm : Int)), xr)]⟩)) ∧ Hid (Below W.heap.size W w')) := fun W hW => by
            have := fosets_is ⟨g.terms, g.names, g.rules ++ [(((g.terms.length : Int) + (mm : Int)), xr)]⟩ ⟨ta2, tc2, na2, nc2, some ⟨ga, 0, none⟩, cap⟩ W HHM.out (HO11.out.below hW).at
            rw [hhl] at this; exact this
          have MM : Hid (∀ (s : Nat), s < g.names.length → ∀ t ∈ (Fo.setsG g).getD s [], t ∈ (Fo.setsG ⟨g.terms, g.names, g.rules ++ [(((g.terms.length : Int) + (mm : Int)), xr)]⟩).getD s []) := fun s hs => Fo.setsG_more HGD0.out hgh rfl rfl (fun r hr => List.mem_append.2 (.inl hr)) s hs
          have NO : Hid (∀ (s : Nat), s < g.names.length → (∀ r ∈ g.rules, ((g.terms.length : Int) + (s : Int)) ∉ r.2) → 0 < s → (Fo.setsG g).getD s [] = []) := fun s hs h h0 => Fo.nowhere_no HGD0.out s hs h h0
          have NS : Hid (0 < g.names.length → (∀ r ∈ g.rules, ((g.terms.length : Int) + ((0 : Nat) : Int)) ∉ r.2) → (Fo.setsG g).getD 0 [] = [((g.terms.length + g.names.length : Nat) : Int)]) := fun h0 h => Fo.nowhere_start HGD0.out h0 h
          have SG : Hid (∀ x ∈ Fo.setsG g, x.length ≤ 81) := fun x hx => Nat.le_trans (Fo.setsG_short g x hx) (by omega)
          have SH : Hid (∀ x ∈ Fo.setsG ⟨g.terms, g.names, g.rules ++ [(((g.terms.length : Int) + (mm : Int)), xr)]⟩, x.length ≤ 81) := fun x hx => Nat.le_trans (Fo.setsG_short ⟨g.terms, g.names, g.rules ++ [(((g.terms.length : Int) + (mm : Int)), xr)]⟩ x hx) (by show g.terms.length + g.names.length + 1 ≤ 81; omega)
          simp only [gmCells, List.length_append, List.length_singleton] at RG RH
          generalize Fo.setsG ⟨g.terms, g.names, g.rules ++ [(((g.terms.length : Int) + (mm : Int)), xr)]⟩ = sh at *
          generalize Fo.setsG g = sg at *
          have HC : Hid (∀ w1 : World, Lat w11.drew w1 → (w1.cell? ⟨w.heap.size, 0, none⟩ = some (.slice ta g.terms.length tc) ∧ w1.cell? ⟨w.heap.size, 1, none⟩ = some (.slice na g.names.length nc) ∧ w1.cell? ⟨w.heap.size, 2, none⟩ = some (.slice ra g.rules.length rc)) ∧ w1.cell? ⟨B12, 0, none⟩ = some (.slice ta2 g.terms.length tc2) ∧ w1.cell? ⟨B12, 1, none⟩ = some (.slice na2 g.names.length nc2) ∧ w1.cell? ⟨B12, 2, none⟩ = some (.slice (some ⟨ga, 0, none⟩) (g.rules.length + 1) cap)) := fun w1 hL => by
            have h := cells_three_z ((hL.of_drew.block _ (Array.getElem?_eq_some_iff.1 kG11.out).1).trans kG11.out)
            have h2 := cells_three_z ((hL.of_drew.block _ (Array.getElem?_eq_some_iff.1 k11.out).1).trans k11.out)
            exact ⟨⟨h.1, h.2.1, h.2.2.1⟩, h2.1, h2.2.1, h2.2.2.1⟩
          clear hgh k11 HO11 HHM HM HGD0 h60i h8i
          go_upto_region 13 with fail
          refine wp_region_lat [.val (.agg #[.slice ta g.terms.length tc, .slice na g.names.length nc, .slice ra g.rules.length rc]), .fact (fun v w' => ∃ xo xc, v = .slice xo g.names.length xc ∧ LisAt w'.heap.size w' xo sg), .val (.agg #[.slice ta2 g.terms.length tc2, .slice na2 g.names.length nc2, .slice (some ⟨ga, 0, none⟩) (g.rules.length + 1) cap]), .fact (fun v w' => ∃ xo xc, v = .slice xo g.names.length xc ∧ LisAt w'.heap.size w' xo sh)] [_, _] (by kernel_rfl) (by kernel_rfl) rfl ?kept ?walk
          case kept => exact ⟨fun v w1 w2 hL ⟨bo, bc, e, h1⟩ => ⟨bo, bc, e, h1.next hL⟩, fun v w1 w2 hL ⟨bo, bc, e, h1⟩ => ⟨bo, bc, e, h1.next hL⟩, trivial⟩
          case walk =>
            refine wpFacts_val (by rfl) (fun w1 hL hd K hK => ?_) ?_
            · obtain ⟨⟨d0, d1, d2⟩, e0, e1, e2⟩ := HC.out w1 hL
              go_simp
              exact hK _ (Lat.refl _)
            refine wpFacts_norm (by simp only [Act.put, List.setIfInBounds_toArray, List.set_cons_zero, List.set_cons_succ]; rfl) (by simp only [List.nil_append]; rfl) ?_
            refine wpFacts_fact (by rfl) (fun w1 hL hd K hK => ?_) (fun v1 => ?_)
            · go_simp
              refine Calls.mono (RG.out w1 hL.of_drew) ?_
              rintro e w9 ⟨bo, bc, rfl, hb8, hb9⟩
              exact hK _ _ hb9.out ⟨bo, bc, rfl, hb8.out⟩
            refine wpFacts_norm (by simp only [Act.put, List.setIfInBounds_toArray, List.set_cons_zero, List.set_cons_succ]; rfl) (by simp only [List.cons_append, List.nil_append]; rfl) ?_
            refine wpFacts_val (by rfl) (fun w1 hL hd K hK => ?_) ?_
            · obtain ⟨⟨d0, d1, d2⟩, e0, e1, e2⟩ := HC.out w1 hL
              go_simp
              exact hK _ (Lat.refl _)
            refine wpFacts_norm (by simp only [Act.put, List.setIfInBounds_toArray, List.set_cons_zero, List.set_cons_succ]; rfl) (by simp only [List.cons_append, List.nil_append]; rfl) ?_
            refine wpFacts_fact (by rfl) (fun w1 hL hd K hK => ?_) (fun v3 => ?_)
            · go_simp
              refine Calls.mono (RH.out w1 hL.of_drew) ?_
              rintro e w9 ⟨bo, bc, rfl, hb8, hb9⟩
              exact hK _ _ hb9.out ⟨bo, bc, rfl, hb8.out⟩
            refine wpFacts_norm (by simp only [Act.put, List.setIfInBounds_toArray, List.set_cons_zero, List.set_cons_succ]; rfl) (by simp only [List.cons_append, List.nil_append]; rfl) ?_
            intro w12 hL ha
            obtain ⟨xo, xc, rfl, LG0⟩ : ∃ xo xc, v1 = .slice xo g.names.length xc ∧ LisAt w12.heap.size w12 xo sg := allHold_get 1 ha rfl rfl
            obtain ⟨yo, yc, rfl, LH0⟩ : ∃ xo xc, v3 = .slice xo g.names.length xc ∧ LisAt w12.heap.size w12 xo sh := allHold_get 3 ha rfl rfl
            have LG : Hid (LisAt w12.heap.size w12 xo sg) := LG0
            have LH : Hid (LisAt w12.heap.size w12 yo sh) := LH0
            have HB12 : Hid (Below w.heap.size w w12) := HB11.out.trans (Below.mono hL.of_drew HB11.out.size)
            have kG12 : Hid (w12.heap[w.heap.size]? = some (.cells #[.slice ta g.terms.length tc, .slice na g.names.length nc, .slice ra g.rules.length rc] 25 (0, 0))) := (hL.of_drew.block _ (Array.getElem?_eq_some_iff.1 kG11.out).1).trans kG11.out
            clear ha hL LG0 LH0 RG RH HC HB11 kG11
            obtain ⟨g0, g1, g2, _⟩ := cells_three_z kG12.out
            have hgz12 := (Array.getElem?_eq_some_iff.1 kG12.out).1
            have hneq : ((g.names.length : Int) != (g.names.length : Int)) = false := by simp
            have hn0 : 0 < g.names.length := by omega
            go_wp2_with fail
            clear g0 g1 g2 hgz12
            go_loopw [14] (fun i wr => ∃ s : Nat, s ≤ g.names.length ∧ i = .int .i64 s ∧ Hid (Below w12.heap.size w12 wr)) (fun i _ => g.names.length - (intOf i).toNat)
            case atStart => exact ⟨0, Nat.zero_le _, rfl, Below.refl _ _⟩
            case round =>
              obtain ⟨s, hs, rfl, hb⟩ := hrel
              by_cases hsl : s < g.names.length
              · have hsi : (s : Int) < (g.names.length : Int) := by omega
                have hsg : s < sg.length := by omega
                have hsh : s < sh.length := by omega
                have eg : sg.getD s [] = sg[s] := by simp [List.getD_eq_getElem?_getD, hsg]
                have eh : sh.getD s [] = sh[s] := by simp [List.getD_eq_getElem?_getD, hsh]
                have mm := MM.out s hsl
                rw [eg, eh] at mm
                have MMS : Hid (∀ t ∈ sg[s], t ∈ sh[s]) := mm
                have lg := SG.out _ (List.getElem_mem hsg)
                have lh := SH.out _ (List.getElem_mem hsh)
                have NO1 : Hid ((∀ r ∈ g.rules, ((g.terms.length : Int) + (s : Int)) ∉ r.2) → 0 < s → sg[s] = []) := fun h h0 => by rw [← eg]; exact NO.out s hsl h h0
                have NS1 : Hid ((∀ r ∈ g.rules, ((g.terms.length : Int) + (s : Int)) ∉ r.2) → s = 0 → sg[s] = [((g.terms.length + g.names.length : Nat) : Int)]) := fun h h0 => by
                  rw [← eg]; subst h0; exact NS.out hn0 h
                obtain ⟨yb, yof, ry, cy, rfl, _, _, y0, yI⟩ := (LisAt.later LH.out hb.out) s hsh
                obtain ⟨xb, xof, rx, cx, rfl, _, _, x0, xI⟩ := (LisAt.later LG.out hb.out) s hsg
                have YI : Hid (IntsAt wr.heap.size wr ry sh[s]) := IntsAt.size yI
                have XI : Hid (IntsAt wr.heap.size wr rx sg[s]) := IntsAt.size xI
                clear yI xI mm eg eh
                generalize sh[s] = hv at *
                generalize sg[s] = av at *
                have HC : Hid (∀ w1 : World, Lat wr.drew w1 → w1.cell? ⟨yb, yof + s, none⟩ = some (.slice ry hv.length cy) ∧ w1.cell? ⟨xb, xof + s, none⟩ = some (.slice rx av.length cx) ∧ Calls Tryz.prog 26 #[.slice ry hv.length cy, .slice rx av.length cx] w1 fun e w' => e = .returned (.bool true) ∧ w' = w1) := fun w1 hL =>
                  ⟨cell_later hL.of_drew y0, cell_later hL.of_drew x0, all_any hv av ry rx cy cx w1 (IntsAt.size (YI.out.later hL.of_drew)) (IntsAt.size (XI.out.later hL.of_drew)) (by omega) (by omega) MMS.out⟩
                have X0 : Hid (wr.cell? ⟨xb, xof + s, none⟩ = some (.slice rx av.length cx)) := x0
                have hxbl := World.block_lt_of_cell? _ _ x0
                go_upto_region 19 with fail
                clear x0 y0
                refine wp_region_lat [.val (.slice (some ⟨yb, yof, none⟩) g.names.length yc), .val (.int .i64 (s : Int)), .val (.pointer (some ⟨yb, yof + s, none⟩)), .val (.slice ry hv.length cy), .val (.slice (some ⟨xb, xof, none⟩) g.names.length xc), .val (.int .i64 (s : Int)), .val (.pointer (some ⟨xb, xof + s, none⟩)), .val (.slice rx av.length cx), .val (.bool true), .val (.bool false)] [] (by kernel_rfl) (by kernel_rfl) rfl ?keptA ?walkA
                case keptA => exact trivial
                case walkA =>
                  refine wpFacts_val (by rfl) (fun w1 hL hd K hK => ?_) ?_
                  · go_simp
                    exact hK _ (Lat.refl _)
                  refine wpFacts_norm (by simp only [Act.put, List.setIfInBounds_toArray, List.set_cons_zero, List.set_cons_succ]; rfl) (by simp only [List.nil_append]; rfl) ?_
                  refine wpFacts_val (by rfl) (fun w1 hL hd K hK => ?_) ?_
                  · go_simp
                    exact hK _ (Lat.refl _)
                  refine wpFacts_norm (by simp only [Act.put, List.setIfInBounds_toArray, List.set_cons_zero, List.set_cons_succ]; rfl) (by simp only [List.cons_append, List.nil_append]; rfl) ?_
                  refine wpFacts_val (by rfl) (fun w1 hL hd K hK => ?_) ?_
                  · go_simp
                    exact hK _ (Lat.refl _)
                  refine wpFacts_norm (by simp only [Act.put, List.setIfInBounds_toArray, List.set_cons_zero, List.set_cons_succ]; rfl) (by simp only [List.cons_append, List.nil_append]; rfl) ?_
                  refine wpFacts_val (by rfl) (fun w1 hL hd K hK => ?_) ?_
                  · obtain ⟨d0, d1, _⟩ := HC.out w1 hL
                    go_simp
                    exact hK _ (Lat.refl _)
                  refine wpFacts_norm (by simp only [Act.put, List.setIfInBounds_toArray, List.set_cons_zero, List.set_cons_succ]; rfl) (by simp only [List.cons_append, List.nil_append]; rfl) ?_
                  refine wpFacts_val (by rfl) (fun w1 hL hd K hK => ?_) ?_
                  · go_simp
                    exact hK _ (Lat.refl _)
                  refine wpFacts_norm (by simp only [Act.put, List.setIfInBounds_toArray, List.set_cons_zero, List.set_cons_succ]; rfl) (by simp only [List.cons_append, List.nil_append]; rfl) ?_
                  refine wpFacts_val (by rfl) (fun w1 hL hd K hK => ?_) ?_
                  · go_simp
                    exact hK _ (Lat.refl _)
                  refine wpFacts_norm (by simp only [Act.put, List.setIfInBounds_toArray, List.set_cons_zero, List.set_cons_succ]; rfl) (by simp only [List.cons_append, List.nil_append]; rfl) ?_
                  refine wpFacts_val (by rfl) (fun w1 hL hd K hK => ?_) ?_
                  · go_simp
                    exact hK _ (Lat.refl _)
                  refine wpFacts_norm (by simp only [Act.put, List.setIfInBounds_toArray, List.set_cons_zero, List.set_cons_succ]; rfl) (by simp only [List.cons_append, List.nil_append]; rfl) ?_
                  refine wpFacts_val (by rfl) (fun w1 hL hd K hK => ?_) ?_
                  · obtain ⟨d0, d1, _⟩ := HC.out w1 hL
                    go_simp
                    exact hK _ (Lat.refl _)
                  refine wpFacts_norm (by simp only [Act.put, List.setIfInBounds_toArray, List.set_cons_zero, List.set_cons_succ]; rfl) (by simp only [List.cons_append, List.nil_append]; rfl) ?_
                  refine wpFacts_val (by rfl) (fun w1 hL hd K hK => ?_) ?_
                  · go_simp
                    refine Calls.mono (HC.out w1 hL).2.2 ?_
                    rintro e w9 ⟨rfl, e2⟩
                    subst w9
                    exact hK _ (Lat.refl _)
                  refine wpFacts_norm (by simp only [Act.put, List.setIfInBounds_toArray, List.set_cons_zero, List.set_cons_succ]; rfl) (by simp only [List.cons_append, List.nil_append]; rfl) ?_
                  refine wpFacts_val (by rfl) (fun w1 hL hd K hK => ?_) ?_
                  · go_simp
                    exact hK _ (Lat.refl _)
                  refine wpFacts_norm (by simp only [Act.put, List.setIfInBounds_toArray, List.set_cons_zero, List.set_cons_succ]; rfl) (by simp only [List.cons_append, List.nil_append]; rfl) ?_
                  intro wq hLq ha
                  clear ha HC
                  have HBq : Hid (Below w12.heap.size w12 wq) := hb.out.trans (Below.mono hLq.of_drew hb.out.size)
                  have HWq : Hid (Below w.heap.size w wq) := HB12.out.trans (HBq.out.mono HB12.out.size)
                  have kGq : Hid (wq.heap[w.heap.size]? = some (.cells #[.slice ta g.terms.length tc, .slice na g.names.length nc, .slice ra g.rules.length rc] 25 (0, 0))) := (HBq.out.block _ (Array.getElem?_eq_some_iff.1 kG12.out).1).trans kG12.out
                  have X0Q : Hid (wq.cell? ⟨xb, xof + s, none⟩ = some (.slice rx av.length cx)) := cell_later hLq.of_drew X0.out
                  have hxbq : xb < wq.heap.size := Nat.lt_of_lt_of_le hxbl hLq.of_drew.size
                  have XQ : Hid (IntsAt wq.heap.size wq rx av) := IntsAt.size (XI.out.later hLq.of_drew)
                  clear hLq YI XI MMS hb
                  obtain ⟨g0, g1, g2, _⟩ := cells_three_z kGq.out
                  have hgzq := (Array.getElem?_eq_some_iff.1 kGq.out).1
                  go_wp2_with fail
                  clear g0 g1 g2
                  go_loopw [15, 16] (fun sv i wr => ∃ (r : Nat) (st : Bool), r ≤ g.rules.length ∧ i = .int .i64 r ∧ sv = .bool st ∧ Hid (st = false → ∀ q ∈ g.rules.take r, ((g.terms.length : Int) + (s : Int)) ∉ q.2) ∧ wr = wq) (fun _ i _ => g.rules.length - (intOf i).toNat)
                  case atStart => exact ⟨0, false, Nat.zero_le _, rfl, rfl, fun _ q hq => by simp at hq, rfl⟩
                  case round =>
                    obtain ⟨r, st, hr, rfl, rfl, hN, rfl⟩ := hrel
                    obtain ⟨g0, g1, g2, _⟩ := cells_three_z kGq.out
                    by_cases hrl : r < g.rules.length
                    · have hri : (r : Int) < (g.rules.length : Int) := by omega
                      obtain ⟨rb, ro, zo, zc, rfl, _, _, k0, k1, ki, hzc, _⟩ := HG.out.rules r hrl
                      replace k0 := cell_later HWq.out k0
                      replace k1 := cell_later HWq.out k1
                      have h8 := H4.out _ (List.getElem_mem hrl)
                      have HT : Hid (g.rules.take (r + 1) = g.rules.take r ++ [g.rules[r]]) := by show _ = _; rw [List.take_add_one, List.getElem?_eq_getElem hrl]; rfl
                      have KI : Hid (IntsAt wr.heap.size wr zo g.rules[r].2) := IntsAt.size (IntsAt.later ki HWq.out)
                      clear ki
                      generalize g.rules[r] = y at *
                      obtain ⟨lf, rs⟩ := y
                      simp only at k0 k1 h8 hzc
                      have hwt : IntKind.wrap .i64 ((g.terms.length : Int) + (s : Int)) = (g.terms.length : Int) + (s : Int) := by rw [IntKind.wrap_i64]; omega
                      cases st
                      · obtain ⟨hb0, hbe⟩ : ∃ hb0 : Bool, decide (((g.terms.length : Int) + (s : Int)) ∈ rs) = hb0 := ⟨_, rfl⟩
                        have HHS : Hid _ := has_any hb0 rs ((g.terms.length : Int) + (s : Int)) zo zc wr KI.out h8 hbe
                        have N2 : Hid (hb0 = false → ∀ q ∈ g.rules.take (r + 1), ((g.terms.length : Int) + (s : Int)) ∉ q.2) := fun e q hq => by
                          rw [HT.out] at hq
                          rcases List.mem_append.1 hq with hq | hq
                          · exact hN.out rfl q hq
                          · rw [List.mem_singleton] at hq
                            rw [hq]
                            rw [e, decide_eq_false_iff_not] at hbe
                            exact hbe
                        clear hN HT KI hbe
                        go_wp2_with (go_at_call 25; fail)
                        refine Calls.mono HHS.out ?_
                        rintro e w2 ⟨rfl, e2⟩
                        subst w2
                        go_wp2_with fail
                        go_roundw
                        case rel => exact ⟨r + 1, hb0, by omega, by go_num, rfl, N2, trivial⟩
                        case measure => simp [intOf]; omega
                      · clear hN HT KI
                        go_wp2_with fail
                        go_roundw
                        case rel => exact ⟨r + 1, true, by omega, by go_num, rfl, fun e => (by cases e), trivial⟩
                        case measure => simp [intOf]; omega
                    · obtain rfl : r = g.rules.length := by omega
                      have hri : ¬ (g.rules.length : Int) < (g.rules.length : Int) := by omega
                      rw [List.take_length] at hN
                      cases st
                      · have hN1 := hN.out rfl
                        by_cases hs0 : 0 < s
                        · have hs0i : (0 : Int) < (s : Int) := by omega
                          have EV : Hid (av = []) := NO1.out hN1 hs0
                          have x0 := X0Q.out
                          rw [EV.out] at x0
                          simp only [List.length_nil] at x0
                          clear hN hN1
                          go_wp2_with fail
                          go_roundw
                          case rel => exact ⟨s + 1, by omega, by go_num, HBq⟩
                          case measure => simp [intOf]; omega
                        · obtain rfl : s = 0 := by omega
                          have EV : Hid (av = [((g.terms.length + g.names.length : Nat) : Int)]) := NS1.out hN1 rfl
                          have x0 := X0Q.out
                          have hcast : ((g.terms.length + g.names.length : Nat) : Int) = (g.terms.length : Int) + (g.names.length : Int) := by omega
                          rw [hcast] at EV
                          have XE : Hid (IntsAt wr.heap.size wr rx [(g.terms.length : Int) + (g.names.length : Int)]) := by
                            have h := XQ.out
                            rw [EV.out] at h
                            exact h
                          rw [EV.out] at x0
                          simp only [List.length_cons, List.length_nil, Nat.zero_add, Nat.add_zero] at x0
                          have hbn : Below wr.heap.size wr (wr.alloc (Obj.cells #[Value.int .i64 ((g.terms.length : Int) + (g.names.length : Int))] 3)) := (Below.refl _ wr).alloc (Nat.le_refl _) _
                          have hnn : Hid (IntsAt (wr.alloc (Obj.cells #[Value.int .i64 ((g.terms.length : Int) + (g.names.length : Int))] 3)).heap.size (wr.alloc (Obj.cells #[Value.int .i64 ((g.terms.length : Int) + (g.names.length : Int))] 3)) (some ⟨wr.heap.size, 0, none⟩) [(g.terms.length : Int) + (g.names.length : Int)]) := ints_new wr [(g.terms.length : Int) + (g.names.length : Int)] 3
                          have XN : Hid (IntsAt _ _ rx _) := (IntsAt.later XE.out hbn).size
                          have HBN : Hid (Below w12.heap.size w12 (wr.alloc (Obj.cells #[Value.int .i64 ((g.terms.length : Int) + (g.names.length : Int))] 3))) := HBq.out.trans (hbn.mono HBq.out.size)
                          clear hN hN1 hbn XE
                          go_wp2_with (go_at_call 24; fail)
                          generalize (wr.alloc (Obj.cells #[Value.int .i64 ((g.terms.length : Int) + (g.names.length : Int))] 3)) = Wn at *
                          refine Calls.mono (keepInts_same [(g.terms.length : Int) + (g.names.length : Int)] (by simp) rx (some ⟨wr.heap.size, 0, none⟩) cx 1 _ XN.out hnn.out) ?_
                          rintro e w9 ⟨rfl, nd, rfl⟩
                          have HBD : Hid (Below w12.heap.size w12 (Wn.drewN nd)) := below_drewN HBN.out nd
                          clear XN hnn HBN x0
                          go_wp2_with fail
                          go_roundw
                          case rel => exact ⟨1, by omega, by go_num, HBD⟩
                          case measure => simp [intOf]; omega
                      · clear hN
                        go_wp2_with fail
                        go_roundw
                        case rel => exact ⟨s + 1, by omega, by go_num, HBq⟩
                        case measure => simp [intOf]; omega
              · obtain rfl : s = g.names.length := by omega
                have hsi : ¬ (g.names.length : Int) < (g.names.length : Int) := by omega
                have HBf := HB12.out.trans (hb.out.mono HB12.out.size)
                go_wp2_with (go_at_call 16; refine Calls.mono (fowakes_any _) ?_; rintro e wz ⟨rfl, hbz⟩)
                go_ret
                exact ⟨rfl, HBf.trans (hbz.mono HBf.size)⟩

theorem followMore_walk (g : Gr.Gm) (A : GA) (n : Int) (ao : Option Addr) (len c : Nat) (zs : List Int) (w : World) (h : GmAt w.heap.size w g A) (hr : ∀ r ∈ g.rules, r.2.length ≤ maxLen ∧ rlWf r) (hn : (Lit.int .u8 n).wf = true) (hz : IsRow .u8 w ao len c zs) :
    Calls Tryz.prog 6 #[.agg (gmCells g A), .int .u8 n, .slice ao len c] w fun e w' => e = .returned (.bool true) ∧ Below w.heap.size w w' := by
  have hm : ∀ r ∈ g.rules, r.2.length ≤ maxLen := fun r h => (hr r h).1
  obtain ⟨xs, rfl, hx, _, hwf⟩ := hz.read
  cases hl : Gr.large g
  · cases hg : Gr.good g
    · exact followMore_out g A n ao c xs w h hm (.inr ⟨hl, .inl hg⟩)
    · cases hs : Fo.light g
      · exact followMore_out g A n ao c xs w h hm (.inr ⟨hl, .inr ⟨hg, .inl hs⟩⟩)
      · by_cases h8 : 8 < xs.length
        · exact followMore_out g A n ao c xs w h hm (.inr ⟨hl, .inr ⟨hg, .inr ⟨hs, .inl h8⟩⟩⟩)
        · by_cases h60 : 20 ≤ g.rules.length
          · exact followMore_out g A n ao c xs w h hm (.inr ⟨hl, .inr ⟨hg, .inr ⟨hs, .inr ⟨by omega, h60⟩⟩⟩⟩)
          · exact followMore_in g A n ao c xs w h hm hl hg (by omega) (by omega) hs (u8_lt hn) hx (fun x hx => u8_lt (hwf x hx))
  · exact followMore_out g A n ao c xs w h hm (.inl hl)
end Go.Proofs.YtfamhdpiomhjlaaGreat
