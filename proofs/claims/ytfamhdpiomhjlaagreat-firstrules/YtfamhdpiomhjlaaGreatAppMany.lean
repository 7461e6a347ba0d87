/-
  append of many integers onto a row of one's own, told exactly; a relation under which two such appends may stand in one drawn region.
-/
import Derived.Test.YtfamhdpiomhjlaaGreatRowsLib
import Derived.Test.YtfamhdpiomhjlaaGreatSortLib
namespace Go.Proofs.YtfamhdpiomhjlaaGreat
open Go.RowKit Go.Conc

/-- what is below stands, and rows that hold p, or p and q behind it, go on holding them -/
structure AppR (N : Nat) (p q : List Int) (w w' : World) : Prop where
  below : Below N w w'
  one : ∀ v, OwnInts N w v p → OwnInts N w' v p
  two : ∀ v, OwnInts N w v (p ++ q) → OwnInts N w' v (p ++ q)
  emp : ∀ b : Nat, w.heap[b]? = some (Obj.cells #[] 3 (0, 0)) → w'.heap[b]? = some (Obj.cells #[] 3 (0, 0))
theorem AppR.refl {N : Nat} {p q : List Int} (w : World) : AppR N p q w w := ⟨Below.refl _ _, fun _ h => h, fun _ h => h, fun _ h => h⟩
theorem AppR.trans {N : Nat} {p q : List Int} {w w' w'' : World} (h : AppR N p q w w') (h' : AppR N p q w' w'') : AppR N p q w w'' :=
  ⟨h.below.trans h'.below, fun v k => h'.one v (h.one v k), fun v k => h'.two v (h.two v k), fun b k => h'.emp b (h.emp b k)⟩
theorem AppR.lat {N : Nat} {p q : List Int} {w w' : World} (h : Below w.heap.size w w') (hN : N ≤ w.heap.size) : AppR N p q w w' :=
  ⟨h.mono hN, fun _ k => ownsRow_below k h, fun _ k => ownsRow_below k h, fun b k => (h.block b (Array.getElem?_eq_some_iff.1 k).1).trans k⟩
theorem AppR.none {N : Nat} {p q : List Int} {w w' : World} (h : w.grownBy w' none) (hN : N ≤ w.heap.size) : AppR N p q w w' :=
  ⟨⟨h.os, h.tape, h.output, h.size, fun k hk => h.block k (by omega) (by simp)⟩, fun _ k => grown_none k h, fun _ k => grown_none k h, fun b k => (h.block b (Array.getElem?_eq_some_iff.1 k).1 (by simp)).trans k⟩

/-- a row's block written anew, what a row holds of it being the new block's beginning -/
theorem own_setRow {N : Nat} {w : World} {g : Nat} {cur new : Array Value} (hg : w.heap[g]? = some (.cells cur 3 (0, 0))) (hs : new.size = cur.size) {zs : List Int} (hp : new.toList.take zs.length = zs.map (Value.int .i64)) {v : Value} (h : OwnInts N w v zs) : OwnInts N (w.setRow g new) v zs := by
  have hnew := setRow_heap w g cur new 3 (0, 0) hg
  rcases h.2 with h0 | ⟨g2, cap2, cur2, e2, h1, h2, h3, h4, h5, h6⟩
  · exact ⟨h.1, .inl h0⟩
  · by_cases e : g2 = g
    · subst e
      rw [hg] at h2
      obtain rfl : cur = cur2 := (Obj.cells.inj (Option.some.inj h2)).1
      exact ⟨h.1, .inr ⟨g2, cap2, _, e2, h1, hnew, h3, h4, by rw [hs, h5], by rw [Nat.mul_one]; exact hp⟩⟩
    · refine ownsRow_keep h fun k hk => setRow_other w g k _ fun e3 => e ?_
      rw [e2] at hk
      have : g2 = k := by simpa [Value.ownBlock] using hk
      omega

theorem run_append_many (w : World) (ty : TypeId) (M g cap : Nat) (xs : List Int) (hown : OwnInts M w (.slice (some ⟨g, 0, none⟩) xs.length cap) xs) (ao : Option Addr) (c : Nat) (ys : List Int) (hS : IntsAt w.heap.size w ao ys) (hl : xs.length + ys.length ≤ 8000) (hM : M ≤ w.heap.size) :
    ∃ g2 cap2 w', (Builtin.append_ #[32, 32] ty #[.slice (some ⟨g, 0, none⟩) xs.length cap, .slice ao ys.length c]).run Tryz.prog w = .ok (.slice (some ⟨g2, 0, none⟩) (xs.length + ys.length) cap2) w' ∧ OwnInts M w' (.slice (some ⟨g2, 0, none⟩) (xs.length + ys.length) cap2) (xs ++ ys) ∧ (w.grownBy w' none ∨ AppR M xs ys w w' ∧ xs.length + ys.length ≤ cap ∧ ys ≠ []) := by
  obtain ⟨iA, hi, hz0, hz1, hz2⟩ := info_parts Tryz.infoIn
  have hown' : w.ownsRow M 3 1 (.slice (some ⟨g, 0, none⟩) xs.length cap) xs.length (xs.map (Value.int .i64)) := hown
  rcases hown'.2 with ⟨e, _⟩ | ⟨g', cap', cur, e, hMg, hg, hncap, hcm, hcs, htk⟩
  · cases e
  obtain ⟨rfl, rfl⟩ : g = g' ∧ cap = cap' := by
    simp only [Value.slice.injEq, Option.some.injEq, Addr.mk.injEq] at e
    exact ⟨e.1.1, e.2.2⟩
  by_cases hys : ys = []
  · subst hys
    have hsrc : Src Tryz.prog iA.size 32 (.slice ao 0 c) 0 [] w := by
      cases ao with
      | none => exact Src.ofNil w Tryz.underlying32 c
      | some a => exact Src.ofSlice w Tryz.underlying32 a 0 c [] (by simp) (by simp) (by simp)
    have hr := run_append_nothing (P := Tryz.prog) w 32 32 ty 3 iA Tryz.underlying32 hi (some ⟨g, 0, none⟩) xs.length cap hncap (.slice ao 0 c) hsrc
    exact ⟨g, cap, w, hr, by rw [List.append_nil]; exact hown, .inl ⟨rfl, rfl, rfl, Nat.le_refl _, fun _ _ _ => rfl⟩⟩
  · have h0 : 0 < ys.length := List.length_pos_iff.2 hys
    obtain ⟨ad, rfl⟩ : ∃ ad, ao = some ad := by
      obtain ⟨b, o, e, _⟩ := hS 0 (by simpa using h0)
      exact ⟨_, e⟩
    have hnews : ∀ j u, (ys.map (Value.int .i64))[j]? = some u → w.cell? (ad.add j) = some u := fun j u hj => by
      have hl := (List.getElem?_eq_some_iff.1 hj).1
      obtain ⟨b, o, e, _, _, hc⟩ := hS j hl
      cases e
      rw [addr_off_add, hc]
      rw [List.getElem?_eq_getElem hl] at hj
      exact hj
    have hone : ∀ u ∈ ys.map (Value.int .i64), u.oneCell' = true := fun u hu => by obtain ⟨y, _, rfl⟩ := List.mem_map.1 hu; rfl
    by_cases hroom : xs.length + ys.length ≤ cap
    · have hr := run_append_room (P := Tryz.prog) w 32 ty 3 iA Tryz.underlying32 hi g xs.length cap cur hg ad ys.length c (ys.map (Value.int .i64)) (by rw [hz1]; simp) hnews hone hroom (by rw [hz1, hcs]; simp; omega)
      rw [hz1, Nat.mul_one] at hr
      rw [Nat.mul_one] at htk hcs
      rw [htk] at hr
      simp only [List.length_map] at hr
      have hnew := setRow_heap w g cur (xs.map (Value.int .i64) ++ ys.map (Value.int .i64) ++ cur.toList.drop (xs.length + ys.length)).toArray 3 (0, 0) hg
      have hcl : cur.toList.length = cap := by simpa using hcs
      have hsz : (xs.map (Value.int .i64) ++ ys.map (Value.int .i64) ++ cur.toList.drop (xs.length + ys.length)).toArray.size = cap := by
        rw [List.size_toArray, List.length_append, List.length_append, List.length_drop, List.length_map, List.length_map, hcl]; omega
      have p2 : (xs.map (Value.int .i64) ++ ys.map (Value.int .i64) ++ cur.toList.drop (xs.length + ys.length)).toArray.toList.take (xs ++ ys).length = (xs ++ ys).map (Value.int .i64) := by
        rw [List.toList_toArray, List.length_append, List.take_append_of_le_length (by simp), List.take_of_length_le (by simp), List.map_append]
      have p1 : (xs.map (Value.int .i64) ++ ys.map (Value.int .i64) ++ cur.toList.drop (xs.length + ys.length)).toArray.toList.take xs.length = xs.map (Value.int .i64) := by
        rw [List.toList_toArray, List.append_assoc, List.take_append_of_le_length (by simp), List.take_of_length_le (by simp)]
      refine ⟨g, cap, _, hr, ⟨by simp, .inr ⟨g, cap, _, by simp, hMg, hnew, by simpa using hroom, hcm, by rw [hsz, Nat.mul_one], by rw [Nat.mul_one]; exact p2⟩⟩, .inr ⟨⟨⟨rfl, rfl, rfl, by simp, fun k hk => setRow_other w g k _ (by omega)⟩, fun v h => own_setRow hg (by rw [hsz, hcs]) p1 h, fun v h => own_setRow hg (by rw [hsz, hcs]) p2 h, fun b hb => by
        by_cases e : b = g
        · subst e
          rw [hg] at hb
          have h1 := (Obj.cells.inj (Option.some.inj hb)).1
          rw [h1] at hcs
          simp at hcs
          omega
        · exact (setRow_other w g b _ e).trans hb⟩, hroom, hys⟩⟩
    · obtain ⟨v', w', hr, h1, h2⟩ := run_append_arg_grows (P := Tryz.prog) w 32 ty 3 iA _ 1 8 Tryz.underlying32 hi hz0 hz1 hz2 rfl (by decide) ⟨g, 0, none⟩ xs.length cap (xs.map (.int .i64)) (by simp) (World.ownsRow.cells hown' rfl) ad ys.length c (ys.map (.int .i64)) (by simp) hnews (by omega) (by unfold maxLen; omega) (by omega)
      obtain ⟨g2, cap2, rfl, h3, h4⟩ := h1.form (by omega)
      refine ⟨g2, cap2, w', hr, ?_, .inl h2⟩
      unfold OwnInts; rw [List.length_append, List.map_append]; exact ownsRow_from h1 hM
end Go.Proofs.YtfamhdpiomhjlaaGreat
