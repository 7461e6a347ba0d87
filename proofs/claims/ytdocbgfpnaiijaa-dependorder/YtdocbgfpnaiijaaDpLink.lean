/-
  Layer 10 (depend): linkOf: the link that an occurrence makes.
-/
import Derived.Test.YtdocbgfpnaiijaaDpLib
import Derived.Test.YtdocbgfpnaiijaaSchRef
import Derived.Test.YtdocbgfpnaiijaaRuleLib
namespace Go.Proofs.Ytdocbgfpnaiijaa
open Go.RowKit Go.Conc

set_option maxRecDepth 100000 in
set_option maxHeartbeats 3200000 in
theorem linkOf_any (g : Gr.Gm) (A : GA) (r k : Nat) (w : World) (hr : r < g.rules.length) (hk : k < g.rules[r].2.length) (hg : Gr.good g = true) (h : GmAt w.heap.size w g A) :
    Calls Try.prog 45 #[.agg (gmCells g A), .agg #[.int .i64 (r : Int), .int .i64 (k : Int)]] w fun e w' => e = .returned (gainV (Dp.link g.terms.length g.rules ((r : Int), (k : Int)))) ∧ Hid (Below w.heap.size w w') := by
  obtain ⟨ta, tc, na, nc, ra, rc⟩ := A
  rw [Dp.link_at hr hk]
  have hsz := (Nl.sizes_of hg).1
  have hm : g.rules[r] ∈ g.rules := List.getElem_mem hr
  have hlf := (Nl.fit_of hg).left _ hm
  have hxf := (Nl.fit_of hg).right _ hm _ (List.getElem_mem hk)
  have h8 := (Nl.sizes_of hg).2 _ hm
  obtain ⟨rb, ro, xo, xc, rfl, _, _, k0, k1, ki, _⟩ := h.rules r hr
  obtain ⟨xb, xof, rfl, _, _, x0⟩ := IntsAt.get ki k hk
  have hB : Hid (Below w.heap.size w (((w.alloc (Obj.cells #[.slice ta g.terms.length tc, .slice na g.names.length nc, .slice (some ⟨rb, ro, none⟩) g.rules.length rc] 25)).alloc (Obj.cells #[.int .i64 (r : Int), .int .i64 (k : Int)] 48)).alloc (Obj.cells #[.int .i64 0, .int .i64 0] 75))) := (((Below.refl _ w).alloc (Nat.le_refl _) _).alloc (by simp) _).alloc (by simp; omega) _
  have b0 : Hid ((((w.alloc (Obj.cells #[.slice ta g.terms.length tc, .slice na g.names.length nc, .slice (some ⟨rb, ro, none⟩) g.rules.length rc] 25)).alloc (Obj.cells #[.int .i64 (r : Int), .int .i64 (k : Int)] 48)).alloc (Obj.cells #[.int .i64 0, .int .i64 0] 75)).heap[w.heap.size]? = some (.cells #[.slice ta g.terms.length tc, .slice na g.names.length nc, .slice (some ⟨rb, ro, none⟩) g.rules.length rc] 25 (0, 0))) := by
    show _ = _; rw [Below.heap_alloc _ _ _ (by simp; omega), Below.heap_alloc _ _ _ (by simp)]; exact heap_alloc_new w _
  have b1 : Hid ((((w.alloc (Obj.cells #[.slice ta g.terms.length tc, .slice na g.names.length nc, .slice (some ⟨rb, ro, none⟩) g.rules.length rc] 25)).alloc (Obj.cells #[.int .i64 (r : Int), .int .i64 (k : Int)] 48)).alloc (Obj.cells #[.int .i64 0, .int .i64 0] 75)).heap[w.heap.size + 1]? = some (.cells #[.int .i64 (r : Int), .int .i64 (k : Int)] 48 (0, 0))) := by
    show _ = _
    rw [Below.heap_alloc _ _ _ (by simp)]
    have := heap_alloc_new (w.alloc (Obj.cells #[.slice ta g.terms.length tc, .slice na g.names.length nc, .slice (some ⟨rb, ro, none⟩) g.rules.length rc] 25)) (Obj.cells #[.int .i64 (r : Int), .int .i64 (k : Int)] 48)
    simpa using this
  have b2 : Hid ((((w.alloc (Obj.cells #[.slice ta g.terms.length tc, .slice na g.names.length nc, .slice (some ⟨rb, ro, none⟩) g.rules.length rc] 25)).alloc (Obj.cells #[.int .i64 (r : Int), .int .i64 (k : Int)] 48)).alloc (Obj.cells #[.int .i64 0, .int .i64 0] 75)).heap[w.heap.size + 2]? = some (.cells #[.int .i64 0, .int .i64 0] 75 (0, 0))) := by
    show _ = _
    have := heap_alloc_new ((w.alloc (Obj.cells #[.slice ta g.terms.length tc, .slice na g.names.length nc, .slice (some ⟨rb, ro, none⟩) g.rules.length rc] 25)).alloc (Obj.cells #[.int .i64 (r : Int), .int .i64 (k : Int)] 48)) (Obj.cells #[.int .i64 0, .int .i64 0] 75)
    simpa using this
  have hri : (r : Int) < (g.rules.length : Int) := by omega
  have hki : (k : Int) < (g.rules[r].2.length : Int) := by omega
  generalize g.rules[r].2 = xs at *
  generalize g.rules[r].1 = l at *
  generalize xs[k] = x at *
  replace k0 := cell_later hB.out k0
  replace k1 := cell_later hB.out k1
  replace x0 := cell_later hB.out x0
  have hwl : IntKind.wrap .i64 (l - (g.terms.length : Int)) = l - (g.terms.length : Int) := by rw [IntKind.wrap_i64]; omega
  have hwx : IntKind.wrap .i64 (x - (g.terms.length : Int)) = x - (g.terms.length : Int) := by rw [IntKind.wrap_i64]; omega
  clear h ki hm hg
  simp only [gmCells, gainV]
  go_enter Try.func45, Try.ntmps45
  go_upto_region 1 with fail
  generalize (((w.alloc (Obj.cells #[.slice ta g.terms.length tc, .slice na g.names.length nc, .slice (some ⟨rb, ro, none⟩) g.rules.length rc] 25)).alloc (Obj.cells #[.int .i64 (r : Int), .int .i64 (k : Int)] 48)).alloc (Obj.cells #[.int .i64 0, .int .i64 0] 75)) = W at *
  obtain ⟨g0, g1, g2, _⟩ := cells_three_z b0.out
  obtain ⟨p0, p1, _⟩ := cells_two_z b1.out
  have hz0 := (Array.getElem?_eq_some_iff.1 b0.out).1
  have hz1 := (Array.getElem?_eq_some_iff.1 b1.out).1
  have hbn : Hid (Below W.heap.size W (W.alloc (Obj.cells #[.int .i64 l, .slice (some ⟨xb, xof, none⟩) xs.length xc] 31))) := (Below.refl _ W).alloc (Nat.le_refl _) _
  have kn : Hid ((W.alloc (Obj.cells #[.int .i64 l, .slice (some ⟨xb, xof, none⟩) xs.length xc] 31)).heap[W.heap.size]? = some (.cells #[.int .i64 l, .slice (some ⟨xb, xof, none⟩) xs.length xc] 31 (0, 0))) := heap_alloc_new W _
  have HB1 : Hid (Below w.heap.size w (W.alloc (Obj.cells #[.int .i64 l, .slice (some ⟨xb, xof, none⟩) xs.length xc] 31))) := hB.out.trans (hbn.out.mono hB.out.size)
  have b01 : Hid _ := (hbn.out.block _ hz0).trans b0.out
  have b11 : Hid _ := (hbn.out.block _ hz1).trans b1.out
  have z1 : Hid ((W.alloc (Obj.cells #[.int .i64 l, .slice (some ⟨xb, xof, none⟩) xs.length xc] 31)).heap[w.heap.size + 2]? = some (.cells #[.int .i64 0, .int .i64 0] 75 (0, 0))) := (hbn.out.block _ (Array.getElem?_eq_some_iff.1 b2.out).1).trans b2.out
  have x1 := cell_later hbn.out x0
  go_upto_region 2 with fail
  generalize (W.alloc (Obj.cells #[.int .i64 l, .slice (some ⟨xb, xof, none⟩) xs.length xc] 31)) = W1 at *
  generalize W.heap.size = R at *
  have HC : Hid (∀ w1 : World, Lat W1.drew w1 → w1.cell? ⟨w.heap.size, 0, none⟩ = some (.slice ta g.terms.length tc) ∧ w1.cell? ⟨R, 0, none⟩ = some (.int .i64 l) ∧ w1.cell? ⟨R, 1, none⟩ = some (.slice (some ⟨xb, xof, none⟩) xs.length xc) ∧ w1.cell? ⟨w.heap.size + 1, 1, none⟩ = some (.int .i64 (k : Int)) ∧ w1.cell? ⟨xb, xof + k, none⟩ = some (.int .i64 x)) := fun w1 hL => by
    obtain ⟨q0, q1, _⟩ := cells_two_z kn.out
    exact ⟨cell_later hL.of_drew (cells_three_z b01.out).1, cell_later hL.of_drew q0, cell_later hL.of_drew q1, cell_later hL.of_drew (cells_two_z b11.out).2.1, cell_later hL.of_drew x1⟩
  clear g0 g1 g2 p0 p1 hz0 hz1 k0 k1 x0 x1 b0 b1 b2 b01 b11 kn hB hbn
  refine wp_region_lat [.val (.pointer (some ⟨R, 0, none⟩)), .val (.int .i64 l), .val (.pointer (some ⟨w.heap.size, 0, none⟩)), .val (.slice ta g.terms.length tc), .val (.int .i64 (g.terms.length : Int)), .val (.int .i64 (l - (g.terms.length : Int))), .val (.pointer (some ⟨R, 1, none⟩)), .val (.slice (some ⟨xb, xof, none⟩) xs.length xc), .val (.pointer (some ⟨w.heap.size + 1, 1, none⟩)), .val (.int .i64 (k : Int)), .val (.pointer (some ⟨xb, xof + k, none⟩)), .val (.int .i64 x), .val (.pointer (some ⟨w.heap.size, 0, none⟩)), .val (.slice ta g.terms.length tc), .val (.int .i64 (g.terms.length : Int)), .val (.int .i64 (x - (g.terms.length : Int))), .val (.agg #[.int .i64 (l - (g.terms.length : Int)), .int .i64 (x - (g.terms.length : Int))])] [_] (by kernel_rfl) (by kernel_rfl) rfl ?kept2 ?walk2
  case kept2 => exact trivial
  case walk2 =>
    refine wpFacts_val (by rfl) (fun w1 hL hd K hK => ?_) ?_
    · go_simp
      exact hK _ (Lat.refl _)
    refine wpFacts_norm (by simp only [Act.put, List.setIfInBounds_toArray, List.set_cons_zero, List.set_cons_succ]; rfl) (by simp only [List.nil_append]; rfl) ?_
    refine wpFacts_val (by rfl) (fun w1 hL hd K hK => ?_) ?_
    · obtain ⟨d0, d1, d2, d3, d4⟩ := HC.out w1 hL
      go_simp
      exact hK _ (Lat.refl _)
    refine wpFacts_norm (by simp only [Act.put, List.setIfInBounds_toArray, List.set_cons_zero, List.set_cons_succ]; rfl) (by simp only [List.cons_append, List.nil_append]; rfl) ?_
    refine wpFacts_val (by rfl) (fun w1 hL hd K hK => ?_) ?_
    · go_simp
      exact hK _ (Lat.refl _)
    refine wpFacts_norm (by simp only [Act.put, List.setIfInBounds_toArray, List.set_cons_zero, List.set_cons_succ]; rfl) (by simp only [List.cons_append, List.nil_append]; rfl) ?_
    refine wpFacts_val (by rfl) (fun w1 hL hd K hK => ?_) ?_
    · obtain ⟨d0, d1, d2, d3, d4⟩ := HC.out w1 hL
      go_simp
      exact hK _ (Lat.refl _)
    refine wpFacts_norm (by simp only [Act.put, List.setIfInBounds_toArray, List.set_cons_zero, List.set_cons_succ]; rfl) (by simp only [List.cons_append, List.nil_append]; rfl) ?_
    refine wpFacts_val (by rfl) (fun w1 hL hd K hK => ?_) ?_
    · go_simp
      exact hK _ (Lat.refl _)
    refine wpFacts_norm (by simp only [Act.put, List.setIfInBounds_toArray, List.set_cons_zero, List.set_cons_succ]; rfl) (by simp only [List.cons_append, List.nil_append]; rfl) ?_
    refine wpFacts_val (by rfl) (fun w1 hL hd K hK => ?_) ?_
    · go_simp
      exact hK _ (Lat.refl _)
    refine wpFacts_norm (by simp only [Act.put, List.setIfInBounds_toArray, List.set_cons_zero, List.set_cons_succ]; rfl) (by simp only [List.cons_append, List.nil_append]; rfl) ?_
    refine wpFacts_val (by rfl) (fun w1 hL hd K hK => ?_) ?_
    · go_simp
      exact hK _ (Lat.refl _)
    refine wpFacts_norm (by simp only [Act.put, List.setIfInBounds_toArray, List.set_cons_zero, List.set_cons_succ]; rfl) (by simp only [List.cons_append, List.nil_append]; rfl) ?_
    refine wpFacts_val (by rfl) (fun w1 hL hd K hK => ?_) ?_
    · obtain ⟨d0, d1, d2, d3, d4⟩ := HC.out w1 hL
      go_simp
      exact hK _ (Lat.refl _)
    refine wpFacts_norm (by simp only [Act.put, List.setIfInBounds_toArray, List.set_cons_zero, List.set_cons_succ]; rfl) (by simp only [List.cons_append, List.nil_append]; rfl) ?_
    refine wpFacts_val (by rfl) (fun w1 hL hd K hK => ?_) ?_
    · go_simp
      exact hK _ (Lat.refl _)
    refine wpFacts_norm (by simp only [Act.put, List.setIfInBounds_toArray, List.set_cons_zero, List.set_cons_succ]; rfl) (by simp only [List.cons_append, List.nil_append]; rfl) ?_
    refine wpFacts_val (by rfl) (fun w1 hL hd K hK => ?_) ?_
    · obtain ⟨d0, d1, d2, d3, d4⟩ := HC.out w1 hL
      go_simp
      exact hK _ (Lat.refl _)
    refine wpFacts_norm (by simp only [Act.put, List.setIfInBounds_toArray, List.set_cons_zero, List.set_cons_succ]; rfl) (by simp only [List.cons_append, List.nil_append]; rfl) ?_
    refine wpFacts_val (by rfl) (fun w1 hL hd K hK => ?_) ?_
    · go_simp
      exact hK _ (Lat.refl _)
    refine wpFacts_norm (by simp only [Act.put, List.setIfInBounds_toArray, List.set_cons_zero, List.set_cons_succ]; rfl) (by simp only [List.cons_append, List.nil_append]; rfl) ?_
    refine wpFacts_val (by rfl) (fun w1 hL hd K hK => ?_) ?_
    · obtain ⟨d0, d1, d2, d3, d4⟩ := HC.out w1 hL
      go_simp
      exact hK _ (Lat.refl _)
    refine wpFacts_norm (by simp only [Act.put, List.setIfInBounds_toArray, List.set_cons_zero, List.set_cons_succ]; rfl) (by simp only [List.cons_append, List.nil_append]; rfl) ?_
    refine wpFacts_val (by rfl) (fun w1 hL hd K hK => ?_) ?_
    · go_simp
      exact hK _ (Lat.refl _)
    refine wpFacts_norm (by simp only [Act.put, List.setIfInBounds_toArray, List.set_cons_zero, List.set_cons_succ]; rfl) (by simp only [List.cons_append, List.nil_append]; rfl) ?_
    refine wpFacts_val (by rfl) (fun w1 hL hd K hK => ?_) ?_
    · obtain ⟨d0, d1, d2, d3, d4⟩ := HC.out w1 hL
      go_simp
      exact hK _ (Lat.refl _)
    refine wpFacts_norm (by simp only [Act.put, List.setIfInBounds_toArray, List.set_cons_zero, List.set_cons_succ]; rfl) (by simp only [List.cons_append, List.nil_append]; rfl) ?_
    refine wpFacts_val (by rfl) (fun w1 hL hd K hK => ?_) ?_
    · go_simp
      exact hK _ (Lat.refl _)
    refine wpFacts_norm (by simp only [Act.put, List.setIfInBounds_toArray, List.set_cons_zero, List.set_cons_succ]; rfl) (by simp only [List.cons_append, List.nil_append]; rfl) ?_
    refine wpFacts_val (by rfl) (fun w1 hL hd K hK => ?_) ?_
    · go_simp
      exact hK _ (Lat.refl _)
    refine wpFacts_norm (by simp only [Act.put, List.setIfInBounds_toArray, List.set_cons_zero, List.set_cons_succ]; rfl) (by simp only [List.cons_append, List.nil_append]; rfl) ?_
    refine wpFacts_val (by rfl) (fun w1 hL hd K hK => ?_) ?_
    · go_simp
      exact hK _ (Lat.refl _)
    refine wpFacts_norm (by simp only [Act.put, List.setIfInBounds_toArray, List.set_cons_zero, List.set_cons_succ]; rfl) (by simp only [List.cons_append, List.nil_append]; rfl) ?_
    intro w2 hL ha
    clear ha
    have HB2 : Hid (Below w.heap.size w w2) := HB1.out.trans (Below.mono hL.of_drew HB1.out.size)
    have z2 : Hid (w2.heap[w.heap.size + 2]? = some (.cells #[.int .i64 0, .int .i64 0] 75 (0, 0))) := (hL.of_drew.block _ (Array.getElem?_eq_some_iff.1 z1.out).1).trans z1.out
    obtain ⟨e0, e1, f0, f1⟩ := cells_two_z z2.out
    have hbl := (Array.getElem?_eq_some_iff.1 z2.out).1
    have k5 := rset2 (z := .int .i64 (l - (g.terms.length : Int))) (u := .int .i64 (x - (g.terms.length : Int))) z2.out
    have HB5 : Hid (Below w.heap.size w ((w2.setCell ⟨w.heap.size + 2, 0, none⟩ (.int .i64 (l - (g.terms.length : Int)))).setCell ⟨w.heap.size + 2, 1, none⟩ (.int .i64 (x - (g.terms.length : Int))))) := (HB2.out.setCell (by show w.heap.size ≤ w.heap.size + 2; omega) _).setCell (by show w.heap.size ≤ w.heap.size + 2; omega) _
    clear hL HC HB1 z1 z2 HB2
    go_wp2_with fail
    generalize ((w2.setCell ⟨w.heap.size + 2, 0, none⟩ (.int .i64 (l - (g.terms.length : Int)))).setCell ⟨w.heap.size + 2, 1, none⟩ (.int .i64 (x - (g.terms.length : Int)))) = W5 at *
    obtain ⟨e0, e1, _⟩ := cells_two_z k5
    refine bodyPost_ret (v := .agg #[.int .i64 (l - (g.terms.length : Int)), .int .i64 (x - (g.terms.length : Int))]) (by simp [results, Try.results45, go_sem, e0, e1]) rfl ⟨rfl, HB5⟩
end Go.Proofs.Ytdocbgfpnaiijaa
