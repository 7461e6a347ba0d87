/-
  The statements' own comparing of rows of numbers (topiaristkeep.Lists).
-/
import Derived.Test.YtdocbgfpnaiijaaGreatRowsLib
import Derived.Test.YtdocbgfpnaiijaaGreatGrKeeps
namespace Go.Proofs.YtdocbgfpnaiijaaGreat
open Go.RowKit Go.Conc

set_option maxHeartbeats 1600000 in
set_option maxRecDepth 100000 in
theorem keepLists_same (xss : List (List Int)) (hl : xss.length ≤ 10000) (h4 : ∀ x ∈ xss, x.length ≤ 4000) (ao bo : Option Addr) (c d : Nat) (w : World) (h1 : LisAt w.heap.size w ao xss) (h2 : LisAt w.heap.size w bo xss) :
    Calls Tryz.prog 14 #[.slice ao xss.length c, .slice bo xss.length d] w fun e w' => e = .returned (.bool true) ∧ Below w.heap.size w w' := by
  have RA : Hid (LisAt w.heap.size w ao xss) := h1
  have RB : Hid (LisAt w.heap.size w bo xss) := h2
  have H4 : Hid _ := h4
  clear h1 h2 h4
  have hne : ((xss.length : Int) != (xss.length : Int)) = false := by simp
  go_enter Tryz.func14, Tryz.ntmps14
  go_wp2_with fail
  go_loopw [5] (fun i wr => ∃ k : Nat, k ≤ xss.length ∧ i = .int .i64 k ∧ Hid (Below w.heap.size w wr)) (fun i _ => xss.length - (intOf i).toNat)
  case atStart => exact ⟨0, Nat.zero_le _, rfl, Below.refl _ _⟩
  case round =>
    obtain ⟨k, hk, rfl, hb⟩ := hrel
    by_cases hlt : k < xss.length
    · have hki : (k : Int) < (xss.length : Int) := by omega
      obtain ⟨g, o, ro, rc, rfl, _, _, a0, ia⟩ := (LisAt.later RA.out hb.out) k hlt
      obtain ⟨g', o', ro', rc', rfl, _, _, b0, ib⟩ := (LisAt.later RB.out hb.out) k hlt
      have hlen := H4.out _ (List.getElem_mem hlt)
      have IA : Hid (IntsAt w.heap.size wr ro xss[k]) := ia
      have IB : Hid (IntsAt w.heap.size wr ro' xss[k]) := ib
      clear ia ib
      generalize xss[k] = x at *
      have HC : Hid (∀ w1 : World, Lat wr.drew w1 → w1.cell? ⟨g, o + k, none⟩ = some (.slice ro x.length rc) ∧ w1.cell? ⟨g', o' + k, none⟩ = some (.slice ro' x.length rc')) := fun w1 hL => ⟨cell_later hL.of_drew a0, cell_later hL.of_drew b0⟩
      have HKI : Hid (∀ w1 : World, Lat wr.drew w1 → Calls Tryz.prog 16 #[.slice ro x.length rc, .slice ro' x.length rc'] w1 fun e w' => e = .returned (.bool true) ∧ Below w1.heap.size w1 w') := fun w1 hL => (keepInts_same x hlen ro ro' rc rc' w1 (IntsAt.size (IA.out.later (Below.mono hL.of_drew hb.out.size))) (IntsAt.size (IB.out.later (Below.mono hL.of_drew hb.out.size)))).mono fun e w' ⟨h1, n, h2⟩ => ⟨h1, by rw [h2]; exact below_drewN (Below.refl _ w1) n⟩
      clear a0 b0
      go_upto_region 6 with fail
      refine wp_region_lat [.val (.slice (some ⟨g, o, none⟩) xss.length c), .val (.int .i64 k), .val (.pointer (some ⟨g, o + k, none⟩)), .val (.slice ro x.length rc), .val (.slice (some ⟨g', o', none⟩) xss.length d), .val (.int .i64 k), .val (.pointer (some ⟨g', o' + k, none⟩)), .val (.slice ro' x.length rc'), .val (.bool true), .val (.bool false)] [] (by kernel_rfl) (by kernel_rfl) rfl ?kept ?walk
      case kept => exact trivial
      case walk =>
        refine wpFacts_val (by rfl) (fun w1 hL hd K hK => ?_) ?_
        · go_simp
          exact hK _ (Lat.refl _)
        refine wpFacts_norm (by simp only [Act.put, List.setIfInBounds_toArray, List.set_cons_zero, List.set_cons_succ]; rfl) (by simp only [List.nil_append]; rfl) ?_
        refine wpFacts_val (by rfl) (fun w1 hL hd K hK => ?_) ?_
        · go_simp
          exact hK _ (Lat.refl _)
        refine wpFacts_norm (by simp only [Act.put, List.setIfInBounds_toArray, List.set_cons_zero, List.set_cons_succ]; rfl) (by simp only [List.cons_append, List.nil_append]; rfl) ?_
        refine wpFacts_val (by rfl) (fun w1 hL hd K hK => ?_) ?_
        · go_simp
          exact hK _ (Lat.refl _)
        refine wpFacts_norm (by simp only [Act.put, List.setIfInBounds_toArray, List.set_cons_zero, List.set_cons_succ]; rfl) (by simp only [List.cons_append, List.nil_append]; rfl) ?_
        refine wpFacts_val (by rfl) (fun w1 hL hd K hK => ?_) ?_
        · obtain ⟨d0, d1⟩ := HC.out w1 hL
          go_simp
          exact hK _ (Lat.refl _)
        refine wpFacts_norm (by simp only [Act.put, List.setIfInBounds_toArray, List.set_cons_zero, List.set_cons_succ]; rfl) (by simp only [List.cons_append, List.nil_append]; rfl) ?_
        refine wpFacts_val (by rfl) (fun w1 hL hd K hK => ?_) ?_
        · go_simp
          exact hK _ (Lat.refl _)
        refine wpFacts_norm (by simp only [Act.put, List.setIfInBounds_toArray, List.set_cons_zero, List.set_cons_succ]; rfl) (by simp only [List.cons_append, List.nil_append]; rfl) ?_
        refine wpFacts_val (by rfl) (fun w1 hL hd K hK => ?_) ?_
        · go_simp
          exact hK _ (Lat.refl _)
        refine wpFacts_norm (by simp only [Act.put, List.setIfInBounds_toArray, List.set_cons_zero, List.set_cons_succ]; rfl) (by simp only [List.cons_append, List.nil_append]; rfl) ?_
        refine wpFacts_val (by rfl) (fun w1 hL hd K hK => ?_) ?_
        · go_simp
          exact hK _ (Lat.refl _)
        refine wpFacts_norm (by simp only [Act.put, List.setIfInBounds_toArray, List.set_cons_zero, List.set_cons_succ]; rfl) (by simp only [List.cons_append, List.nil_append]; rfl) ?_
        refine wpFacts_val (by rfl) (fun w1 hL hd K hK => ?_) ?_
        · obtain ⟨d0, d1⟩ := HC.out w1 hL
          go_simp
          exact hK _ (Lat.refl _)
        refine wpFacts_norm (by simp only [Act.put, List.setIfInBounds_toArray, List.set_cons_zero, List.set_cons_succ]; rfl) (by simp only [List.cons_append, List.nil_append]; rfl) ?_
        refine wpFacts_val (by rfl) (fun w1 hL hd K hK => ?_) ?_
        · go_simp
          refine Calls.mono (HKI.out w1 hL) ?_
          rintro e w9 ⟨rfl, hb9⟩
          exact hK _ hb9
        refine wpFacts_norm (by simp only [Act.put, List.setIfInBounds_toArray, List.set_cons_zero, List.set_cons_succ]; rfl) (by simp only [List.cons_append, List.nil_append]; rfl) ?_
        refine wpFacts_val (by rfl) (fun w1 hL hd K hK => ?_) ?_
        · go_simp
          exact hK _ (Lat.refl _)
        refine wpFacts_norm (by simp only [Act.put, List.setIfInBounds_toArray, List.set_cons_zero, List.set_cons_succ]; rfl) (by simp only [List.cons_append, List.nil_append]; rfl) ?_
        intro w1 hL ha
        clear ha
        have N1 : Hid (Below w.heap.size w w1) := hb.out.trans (Below.mono hL.of_drew hb.out.size)
        clear hL HC HKI hb IA IB
        go_wp2_with fail
        go_roundw
        case rel => exact ⟨k + 1, by omega, by go_num, N1⟩
        case measure => simp [intOf]; omega
    · obtain rfl : k = xss.length := by omega
      have hki : ¬ (xss.length : Int) < (xss.length : Int) := by omega
      go_wp2_with fail
      go_ret
      exact ⟨rfl, hb.out⟩
end Go.Proofs.YtdocbgfpnaiijaaGreat
