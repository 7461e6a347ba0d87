/-
  Layer 10 (depend): the search's own function find.
-/
import Derived.Test.YtdocbgfpnaiijaaDpMath
import Derived.Test.YtdocbgfpnaiijaaFiSearch
import Derived.Test.YtdocbgfpnaiijaaRowsLib
import Derived.Test.YtdocbgfpnaiijaaOwnLib2
namespace Go.Proofs.Ytdocbgfpnaiijaa
open Go.RowKit Go.Conc

/-- the search, as a value -/
def dpCells (H S C M : Nat) : Array Value := #[.slice (some ⟨H, 0, none⟩) (M + 1) (M + 1), .slice (some ⟨S, 0, none⟩) (M + 1) (M + 1), .chan (some C)]

set_option maxRecDepth 100000 in
set_option maxHeartbeats 1600000 in
theorem dfind_any (st : Fi.St) (M S C cap H : Nat) (Bs : List Nat) (a t : Int) (w : World) (hG : GAt S C (M + 1) cap Bs st w) (hlen : st.ss.length = M + 1) (ha : 0 ≤ a ∧ a < (M + 1 : Nat)) (ht : 0 ≤ t ∧ t < (M + 1 : Nat)) (hr : Fi.has st.ss a t = false → st.q.length < cap) :
    Calls Try.prog 68 #[.agg (dpCells H S C M), gainV (a, t)] w fun e w' => e = .returned (.tuple #[]) ∧ Hid (ButL (C :: Bs) w w') ∧ Hid (GAt S C (M + 1) cap Bs (Fi.grow st a t) w') := by
  obtain ⟨k, rfl⟩ : ∃ k : Nat, a = k := ⟨a.toNat, by omega⟩
  obtain ⟨j, rfl⟩ : ∃ j : Nat, t = j := ⟨t.toNat, by omega⟩
  have hk : k < Bs.length := by rw [hG.rs.len]; omega
  have hj : j < M + 1 := by omega
  have hki : (k : Int) < (M : Int) + 1 := by omega
  have hji : (j : Int) < (M : Int) + 1 := by omega
  have HM : Hid _ := hr
  have hB : Hid (Below w.heap.size w ((w.alloc (Obj.cells #[.slice (some ⟨H, 0, none⟩) (M + 1) (M + 1), .slice (some ⟨S, 0, none⟩) (M + 1) (M + 1), .chan (some C)] 71)).alloc (Obj.cells #[.int .i64 (k : Int), .int .i64 (j : Int)] 75))) := ((Below.refl _ w).alloc (Nat.le_refl _) _).alloc (by simp) _
  have b0 : Hid (((w.alloc (Obj.cells #[.slice (some ⟨H, 0, none⟩) (M + 1) (M + 1), .slice (some ⟨S, 0, none⟩) (M + 1) (M + 1), .chan (some C)] 71)).alloc (Obj.cells #[.int .i64 (k : Int), .int .i64 (j : Int)] 75)).heap[w.heap.size]? = some (.cells #[.slice (some ⟨H, 0, none⟩) (M + 1) (M + 1), .slice (some ⟨S, 0, none⟩) (M + 1) (M + 1), .chan (some C)] 71 (0, 0))) := by
    show _ = _; rw [Below.heap_alloc _ _ _ (by simp)]; exact heap_alloc_new w _
  have b1 : Hid (((w.alloc (Obj.cells #[.slice (some ⟨H, 0, none⟩) (M + 1) (M + 1), .slice (some ⟨S, 0, none⟩) (M + 1) (M + 1), .chan (some C)] 71)).alloc (Obj.cells #[.int .i64 (k : Int), .int .i64 (j : Int)] 75)).heap[w.heap.size + 1]? = some (.cells #[.int .i64 (k : Int), .int .i64 (j : Int)] 75 (0, 0))) := by
    show _ = _
    have := heap_alloc_new (w.alloc (Obj.cells #[.slice (some ⟨H, 0, none⟩) (M + 1) (M + 1), .slice (some ⟨S, 0, none⟩) (M + 1) (M + 1), .chan (some C)] 71)) (Obj.cells #[.int .i64 (k : Int), .int .i64 (j : Int)] 75)
    simpa using this
  have G1 : Hid _ := hG.later hB.out
  have hlt := hG.lt
  clear ha ht hr hG
  simp only [dpCells, gainV]
  go_enter Try.func68, Try.ntmps68
  go_upto_region 1 with fail
  generalize ((w.alloc (Obj.cells #[.slice (some ⟨H, 0, none⟩) (M + 1) (M + 1), .slice (some ⟨S, 0, none⟩) (M + 1) (M + 1), .chan (some C)] 71)).alloc (Obj.cells #[.int .i64 (k : Int), .int .i64 (j : Int)] 75)) = W at *
  have hBm : Bs[k] ∈ Bs := List.getElem_mem hk
  have hBl := hlt.2.2 _ hBm
  have HC : Hid (∀ w1 : World, Lat W.drew w1 → w1.cell? ⟨w.heap.size, 1, none⟩ = some (.slice (some ⟨S, 0, none⟩) (M + 1) (M + 1)) ∧ w1.cell? ⟨w.heap.size, 2, none⟩ = some (.chan (some C)) ∧ w1.cell? ⟨w.heap.size + 1, 0, none⟩ = some (.int .i64 (k : Int)) ∧ w1.cell? ⟨w.heap.size + 1, 1, none⟩ = some (.int .i64 (j : Int)) ∧ w1.cell? ⟨S, k, none⟩ = some (.slice (some ⟨Bs[k], 0, none⟩) (M + 1) (M + 1))) := fun w1 hL => by
    obtain ⟨_, q1, q2, _⟩ := cells_three_z b0.out
    obtain ⟨p0, p1, _⟩ := cells_two_z b1.out
    exact ⟨cell_later hL.of_drew q1, cell_later hL.of_drew q2, cell_later hL.of_drew p0, cell_later hL.of_drew p1, cell_later hL.of_drew (G1.out.rs.head k hk)⟩
  have HC2 : Hid (∀ w1 : World, Lat W.drew w1 → w1.cell? ⟨Bs[k], j, none⟩ = some (.bool (Fi.has st.ss (k : Int) (j : Int)))) := fun w1 hL => cell_later hL.of_drew (G1.out.rs.cell k j hk hj).1
  cases hb : Fi.has st.ss (k : Int) (j : Int)
  · have R : Hid (Fi.grow st (k : Int) (j : Int) = ⟨Fi.put st.ss k j, st.q ++ [((k : Int), (j : Int))]⟩) := by show _ = _; unfold Fi.grow; rw [if_neg (by rw [hb]; simp)]
    have hrm := HM.out hb
    rw [hb] at HC2
    have TEL : Hid (∀ V : World, GAt S C (M + 1) cap Bs st V → GAt S C (M + 1) cap Bs ⟨Fi.put st.ss k j, st.q⟩ (V.setCell ⟨Bs[k], j, none⟩ (.bool true)) ∧ Bs[k] < V.heap.size ∧ V.cell? ⟨Bs[k], j, none⟩ = some (.bool (Fi.has st.ss (k : Int) (j : Int))) ∧ V.frozen? ⟨Bs[k], j, none⟩ = false) := fun V hV => ⟨hV.tell k j hk, hV.lt.2.2 _ hBm, hV.rs.cell k j hk hj⟩
    clear HM
    generalize Bs[k] = B at *
    have n0 : w.heap.size ≠ B := by omega
    have n1 : w.heap.size + 1 ≠ B := by omega
    refine wp_region_lat [.val (.pointer (some ⟨w.heap.size, 1, none⟩)), .val (.slice (some ⟨S, 0, none⟩) (M + 1) (M + 1)), .val (.pointer (some ⟨w.heap.size + 1, 0, none⟩)), .val (.int .i64 (k : Int)), .val (.pointer (some ⟨S, k, none⟩)), .val (.slice (some ⟨B, 0, none⟩) (M + 1) (M + 1)), .val (.pointer (some ⟨w.heap.size + 1, 1, none⟩)), .val (.int .i64 (j : Int)), .val (.pointer (some ⟨B, j, none⟩)), .val (.bool false), .val (.bool true)] [] (by kernel_rfl) (by kernel_rfl) rfl ?kept1false ?walk1false
    case kept1false => exact trivial
    case walk1false =>
      refine wpFacts_val (by rfl) (fun w1 hL hd K hK => ?_) ?_
      · go_simp
        exact hK _ (Lat.refl _)
      refine wpFacts_norm (by simp only [Act.put, List.setIfInBounds_toArray, List.set_cons_zero, List.set_cons_succ]; rfl) (by simp only [List.nil_append]; rfl) ?_
      refine wpFacts_val (by rfl) (fun w1 hL hd K hK => ?_) ?_
      · obtain ⟨d0, d1, d2, d3, d4⟩ := HC.out w1 hL
        go_simp
        exact hK _ (Lat.refl _)
      refine wpFacts_norm (by simp only [Act.put, List.setIfInBounds_toArray, List.set_cons_zero, List.set_cons_succ]; rfl) (by simp only [List.cons_append, List.nil_append]; rfl) ?_
      refine wpFacts_val (by rfl) (fun w1 hL hd K hK => ?_) ?_
      · go_simp
        exact hK _ (Lat.refl _)
      refine wpFacts_norm (by simp only [Act.put, List.setIfInBounds_toArray, List.set_cons_zero, List.set_cons_succ]; rfl) (by simp only [List.cons_append, List.nil_append]; rfl) ?_
      refine wpFacts_val (by rfl) (fun w1 hL hd K hK => ?_) ?_
      · obtain ⟨d0, d1, d2, d3, d4⟩ := HC.out w1 hL
        go_simp
        exact hK _ (Lat.refl _)
      refine wpFacts_norm (by simp only [Act.put, List.setIfInBounds_toArray, List.set_cons_zero, List.set_cons_succ]; rfl) (by simp only [List.cons_append, List.nil_append]; rfl) ?_
      refine wpFacts_val (by rfl) (fun w1 hL hd K hK => ?_) ?_
      · go_simp
        exact hK _ (Lat.refl _)
      refine wpFacts_norm (by simp only [Act.put, List.setIfInBounds_toArray, List.set_cons_zero, List.set_cons_succ]; rfl) (by simp only [List.cons_append, List.nil_append]; rfl) ?_
      refine wpFacts_val (by rfl) (fun w1 hL hd K hK => ?_) ?_
      · obtain ⟨d0, d1, d2, d3, d4⟩ := HC.out w1 hL
        go_simp
        exact hK _ (Lat.refl _)
      refine wpFacts_norm (by simp only [Act.put, List.setIfInBounds_toArray, List.set_cons_zero, List.set_cons_succ]; rfl) (by simp only [List.cons_append, List.nil_append]; rfl) ?_
      refine wpFacts_val (by rfl) (fun w1 hL hd K hK => ?_) ?_
      · go_simp
        exact hK _ (Lat.refl _)
      refine wpFacts_norm (by simp only [Act.put, List.setIfInBounds_toArray, List.set_cons_zero, List.set_cons_succ]; rfl) (by simp only [List.cons_append, List.nil_append]; rfl) ?_
      refine wpFacts_val (by rfl) (fun w1 hL hd K hK => ?_) ?_
      · obtain ⟨d0, d1, d2, d3, d4⟩ := HC.out w1 hL
        go_simp
        exact hK _ (Lat.refl _)
      refine wpFacts_norm (by simp only [Act.put, List.setIfInBounds_toArray, List.set_cons_zero, List.set_cons_succ]; rfl) (by simp only [List.cons_append, List.nil_append]; rfl) ?_
      refine wpFacts_val (by rfl) (fun w1 hL hd K hK => ?_) ?_
      · go_simp
        exact hK _ (Lat.refl _)
      refine wpFacts_norm (by simp only [Act.put, List.setIfInBounds_toArray, List.set_cons_zero, List.set_cons_succ]; rfl) (by simp only [List.cons_append, List.nil_append]; rfl) ?_
      refine wpFacts_val (by rfl) (fun w1 hL hd K hK => ?_) ?_
      · have d9 := (HC2.out w1 hL)
        go_simp
        exact hK _ (Lat.refl _)
      refine wpFacts_norm (by simp only [Act.put, List.setIfInBounds_toArray, List.set_cons_zero, List.set_cons_succ]; rfl) (by simp only [List.cons_append, List.nil_append]; rfl) ?_
      refine wpFacts_val (by rfl) (fun w1 hL hd K hK => ?_) ?_
      · go_simp
        exact hK _ (Lat.refl _)
      refine wpFacts_norm (by simp only [Act.put, List.setIfInBounds_toArray, List.set_cons_zero, List.set_cons_succ]; rfl) (by simp only [List.cons_append, List.nil_append]; rfl) ?_
      intro v1 hL1 ha1
      clear ha1
      have G2 : Hid (GAt S C (M + 1) cap Bs st v1) := G1.out.later hL1.of_drew
      have HB2 : Hid (Below w.heap.size w v1) := hB.out.trans (Below.mono hL1.of_drew hB.out.size)
      have b02 : Hid _ := (hL1.of_drew.block _ (Array.getElem?_eq_some_iff.1 b0.out).1).trans b0.out
      have b12 : Hid _ := (hL1.of_drew.block _ (Array.getElem?_eq_some_iff.1 b1.out).1).trans b1.out
      have HC9 : Hid _ := HC
      replace HC : Hid (∀ w1 : World, Lat v1.drew w1 → _) := fun w1 hL => HC9.out w1 (Lat.trans hL1 hL.of_drew)
      clear HC9 hL1 G1 hB b0 b1 HC2
      go_upto_region 2 with fail
      refine wp_region_lat [.val (.pointer (some ⟨w.heap.size, 1, none⟩)), .val (.slice (some ⟨S, 0, none⟩) (M + 1) (M + 1)), .val (.pointer (some ⟨w.heap.size + 1, 0, none⟩)), .val (.int .i64 (k : Int)), .val (.pointer (some ⟨S, k, none⟩)), .val (.slice (some ⟨B, 0, none⟩) (M + 1) (M + 1)), .val (.pointer (some ⟨w.heap.size + 1, 1, none⟩)), .val (.int .i64 (j : Int)), .val (.pointer (some ⟨B, j, none⟩))] [_] (by kernel_rfl) (by kernel_rfl) rfl ?kept2 ?walk2
      case kept2 => exact trivial
      case walk2 =>
        refine wpFacts_val (by rfl) (fun w1 hL hd K hK => ?_) ?_
        · go_simp
          exact hK _ (Lat.refl _)
        refine wpFacts_norm (by simp only [Act.put, List.setIfInBounds_toArray, List.set_cons_zero, List.set_cons_succ]; rfl) (by simp only [List.nil_append]; rfl) ?_
        refine wpFacts_val (by rfl) (fun w1 hL hd K hK => ?_) ?_
        · obtain ⟨d0, d1, d2, d3, d4⟩ := HC.out w1 hL
          go_simp
          exact hK _ (Lat.refl _)
        refine wpFacts_norm (by simp only [Act.put, List.setIfInBounds_toArray, List.set_cons_zero, List.set_cons_succ]; rfl) (by simp only [List.cons_append, List.nil_append]; rfl) ?_
        refine wpFacts_val (by rfl) (fun w1 hL hd K hK => ?_) ?_
        · go_simp
          exact hK _ (Lat.refl _)
        refine wpFacts_norm (by simp only [Act.put, List.setIfInBounds_toArray, List.set_cons_zero, List.set_cons_succ]; rfl) (by simp only [List.cons_append, List.nil_append]; rfl) ?_
        refine wpFacts_val (by rfl) (fun w1 hL hd K hK => ?_) ?_
        · obtain ⟨d0, d1, d2, d3, d4⟩ := HC.out w1 hL
          go_simp
          exact hK _ (Lat.refl _)
        refine wpFacts_norm (by simp only [Act.put, List.setIfInBounds_toArray, List.set_cons_zero, List.set_cons_succ]; rfl) (by simp only [List.cons_append, List.nil_append]; rfl) ?_
        refine wpFacts_val (by rfl) (fun w1 hL hd K hK => ?_) ?_
        · go_simp
          exact hK _ (Lat.refl _)
        refine wpFacts_norm (by simp only [Act.put, List.setIfInBounds_toArray, List.set_cons_zero, List.set_cons_succ]; rfl) (by simp only [List.cons_append, List.nil_append]; rfl) ?_
        refine wpFacts_val (by rfl) (fun w1 hL hd K hK => ?_) ?_
        · obtain ⟨d0, d1, d2, d3, d4⟩ := HC.out w1 hL
          go_simp
          exact hK _ (Lat.refl _)
        refine wpFacts_norm (by simp only [Act.put, List.setIfInBounds_toArray, List.set_cons_zero, List.set_cons_succ]; rfl) (by simp only [List.cons_append, List.nil_append]; rfl) ?_
        refine wpFacts_val (by rfl) (fun w1 hL hd K hK => ?_) ?_
        · go_simp
          exact hK _ (Lat.refl _)
        refine wpFacts_norm (by simp only [Act.put, List.setIfInBounds_toArray, List.set_cons_zero, List.set_cons_succ]; rfl) (by simp only [List.cons_append, List.nil_append]; rfl) ?_
        refine wpFacts_val (by rfl) (fun w1 hL hd K hK => ?_) ?_
        · obtain ⟨d0, d1, d2, d3, d4⟩ := HC.out w1 hL
          go_simp
          exact hK _ (Lat.refl _)
        refine wpFacts_norm (by simp only [Act.put, List.setIfInBounds_toArray, List.set_cons_zero, List.set_cons_succ]; rfl) (by simp only [List.cons_append, List.nil_append]; rfl) ?_
        refine wpFacts_val (by rfl) (fun w1 hL hd K hK => ?_) ?_
        · go_simp
          exact hK _ (Lat.refl _)
        refine wpFacts_norm (by simp only [Act.put, List.setIfInBounds_toArray, List.set_cons_zero, List.set_cons_succ]; rfl) (by simp only [List.cons_append, List.nil_append]; rfl) ?_
        intro v2 hL2 ha2
        have G3 : Hid (GAt S C (M + 1) cap Bs st v2) := G2.out.later hL2.of_drew
        have HB3 : Hid (Below w.heap.size w v2) := HB2.out.trans (Below.mono hL2.of_drew HB2.out.size)
        have b03 : Hid _ := (hL2.of_drew.block _ (Array.getElem?_eq_some_iff.1 b02.out).1).trans b02.out
        have b13 : Hid _ := (hL2.of_drew.block _ (Array.getElem?_eq_some_iff.1 b12.out).1).trans b12.out
        clear ha2 hL2 G2 HB2 b02 b12 HC
        obtain ⟨G4, hBs, c1, f1⟩ := TEL.out v2 G3.out
        have G5 : Hid _ := G4
        have b04 : Hid _ := (Below.heap_setCell v2 ⟨B, j, none⟩ (.bool true) _ n0).trans b03.out
        have b14 : Hid _ := (Below.heap_setCell v2 ⟨B, j, none⟩ (.bool true) _ n1).trans b13.out
        have B5 : Hid (ButL (C :: Bs) w (v2.setCell ⟨B, j, none⟩ (.bool true))) := (ButL.of HB3.out).setCell (List.mem_cons_of_mem _ hBm) _ _
        clear G4 G3 HB3 b03 b13 TEL
        go_upto_region 3 with fail
        generalize (v2.setCell ⟨B, j, none⟩ (.bool true)) = V3 at *
        clear c1 f1 hBs
        obtain ⟨_, q1, q2, _⟩ := cells_three_z b04.out
        obtain ⟨p0, p1, _⟩ := cells_two_z b14.out
        have hz0 := (Array.getElem?_eq_some_iff.1 b04.out).1
        have hz1 := (Array.getElem?_eq_some_iff.1 b14.out).1
        refine wp_region_last (pre := [_, _, _]) ?_
        simp only [List.cons_append, List.nil_append, List.length_cons, List.length_nil, Nat.zero_add, Nat.reduceAdd]
        go_wp2_with fail
        obtain ⟨sn, rn, hch⟩ := G5.out.ch
        refine inReg_send (c := C) (cap := cap) (buf := (st.q.map gainV).toArray) (s := sn) (r := rn) (v := gainV ((k : Int), (j : Int))) (z := .tuple #[]) (tm := false) rfl rfl (by simp [execOp, scase, Act.eval, gainV]) hch (by simpa using hrm) ?_
        refine inReg_ops ?_
        simp only [wpOps]
        go_end0
        refine ⟨rfl, B5.out.setChan (List.mem_cons_self ..) _ _ _ _ _ _, ?_⟩
        show GAt _ _ _ _ _ _ _
        rw [R.out]
        exact G5.out.send _ _ _
  · have R : Hid (Fi.grow st (k : Int) (j : Int) = st) := by show _ = _; unfold Fi.grow; rw [if_pos hb]
    rw [hb] at HC2
    clear HM
    generalize Bs[k] = B at *
    have n0 : w.heap.size ≠ B := by omega
    have n1 : w.heap.size + 1 ≠ B := by omega
    refine wp_region_lat [.val (.pointer (some ⟨w.heap.size, 1, none⟩)), .val (.slice (some ⟨S, 0, none⟩) (M + 1) (M + 1)), .val (.pointer (some ⟨w.heap.size + 1, 0, none⟩)), .val (.int .i64 (k : Int)), .val (.pointer (some ⟨S, k, none⟩)), .val (.slice (some ⟨B, 0, none⟩) (M + 1) (M + 1)), .val (.pointer (some ⟨w.heap.size + 1, 1, none⟩)), .val (.int .i64 (j : Int)), .val (.pointer (some ⟨B, j, none⟩)), .val (.bool true), .val (.bool false)] [] (by kernel_rfl) (by kernel_rfl) rfl ?kept1true ?walk1true
    case kept1true => exact trivial
    case walk1true =>
      refine wpFacts_val (by rfl) (fun w1 hL hd K hK => ?_) ?_
      · go_simp
        exact hK _ (Lat.refl _)
      refine wpFacts_norm (by simp only [Act.put, List.setIfInBounds_toArray, List.set_cons_zero, List.set_cons_succ]; rfl) (by simp only [List.nil_append]; rfl) ?_
      refine wpFacts_val (by rfl) (fun w1 hL hd K hK => ?_) ?_
      · obtain ⟨d0, d1, d2, d3, d4⟩ := HC.out w1 hL
        go_simp
        exact hK _ (Lat.refl _)
      refine wpFacts_norm (by simp only [Act.put, List.setIfInBounds_toArray, List.set_cons_zero, List.set_cons_succ]; rfl) (by simp only [List.cons_append, List.nil_append]; rfl) ?_
      refine wpFacts_val (by rfl) (fun w1 hL hd K hK => ?_) ?_
      · go_simp
        exact hK _ (Lat.refl _)
      refine wpFacts_norm (by simp only [Act.put, List.setIfInBounds_toArray, List.set_cons_zero, List.set_cons_succ]; rfl) (by simp only [List.cons_append, List.nil_append]; rfl) ?_
      refine wpFacts_val (by rfl) (fun w1 hL hd K hK => ?_) ?_
      · obtain ⟨d0, d1, d2, d3, d4⟩ := HC.out w1 hL
        go_simp
        exact hK _ (Lat.refl _)
      refine wpFacts_norm (by simp only [Act.put, List.setIfInBounds_toArray, List.set_cons_zero, List.set_cons_succ]; rfl) (by simp only [List.cons_append, List.nil_append]; rfl) ?_
      refine wpFacts_val (by rfl) (fun w1 hL hd K hK => ?_) ?_
      · go_simp
        exact hK _ (Lat.refl _)
      refine wpFacts_norm (by simp only [Act.put, List.setIfInBounds_toArray, List.set_cons_zero, List.set_cons_succ]; rfl) (by simp only [List.cons_append, List.nil_append]; rfl) ?_
      refine wpFacts_val (by rfl) (fun w1 hL hd K hK => ?_) ?_
      · obtain ⟨d0, d1, d2, d3, d4⟩ := HC.out w1 hL
        go_simp
        exact hK _ (Lat.refl _)
      refine wpFacts_norm (by simp only [Act.put, List.setIfInBounds_toArray, List.set_cons_zero, List.set_cons_succ]; rfl) (by simp only [List.cons_append, List.nil_append]; rfl) ?_
      refine wpFacts_val (by rfl) (fun w1 hL hd K hK => ?_) ?_
      · go_simp
        exact hK _ (Lat.refl _)
      refine wpFacts_norm (by simp only [Act.put, List.setIfInBounds_toArray, List.set_cons_zero, List.set_cons_succ]; rfl) (by simp only [List.cons_append, List.nil_append]; rfl) ?_
      refine wpFacts_val (by rfl) (fun w1 hL hd K hK => ?_) ?_
      · obtain ⟨d0, d1, d2, d3, d4⟩ := HC.out w1 hL
        go_simp
        exact hK _ (Lat.refl _)
      refine wpFacts_norm (by simp only [Act.put, List.setIfInBounds_toArray, List.set_cons_zero, List.set_cons_succ]; rfl) (by simp only [List.cons_append, List.nil_append]; rfl) ?_
      refine wpFacts_val (by rfl) (fun w1 hL hd K hK => ?_) ?_
      · go_simp
        exact hK _ (Lat.refl _)
      refine wpFacts_norm (by simp only [Act.put, List.setIfInBounds_toArray, List.set_cons_zero, List.set_cons_succ]; rfl) (by simp only [List.cons_append, List.nil_append]; rfl) ?_
      refine wpFacts_val (by rfl) (fun w1 hL hd K hK => ?_) ?_
      · have d9 := (HC2.out w1 hL)
        go_simp
        exact hK _ (Lat.refl _)
      refine wpFacts_norm (by simp only [Act.put, List.setIfInBounds_toArray, List.set_cons_zero, List.set_cons_succ]; rfl) (by simp only [List.cons_append, List.nil_append]; rfl) ?_
      refine wpFacts_val (by rfl) (fun w1 hL hd K hK => ?_) ?_
      · go_simp
        exact hK _ (Lat.refl _)
      refine wpFacts_norm (by simp only [Act.put, List.setIfInBounds_toArray, List.set_cons_zero, List.set_cons_succ]; rfl) (by simp only [List.cons_append, List.nil_append]; rfl) ?_
      intro v1 hL1 ha1
      clear ha1
      have G2 : Hid (GAt S C (M + 1) cap Bs st v1) := G1.out.later hL1.of_drew
      have HB2 : Hid (Below w.heap.size w v1) := hB.out.trans (Below.mono hL1.of_drew hB.out.size)
      clear hL1 G1 hB b0 b1 HC2 HC
      go_wp2_with fail
      go_end0
      refine ⟨rfl, ButL.of HB2.out, ?_⟩
      show GAt _ _ _ _ _ _ _
      rw [R.out]; exact G2.out
end Go.Proofs.Ytdocbgfpnaiijaa
